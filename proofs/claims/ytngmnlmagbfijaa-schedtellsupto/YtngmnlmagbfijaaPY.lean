import Derived.Test.YtngmnlmagbfijaaMB
namespace Go.Proofs.Ytngmnlmagbfijaa
/-- the measure behind the first choice of a run -/
theorem meas_at {G : List En} {s : Pl} (hG : Ghost G s) {a : Nat} {e : En} (ha : G[a]? = some e) (hb : e.c.b = false) : Meas e.c.R e.s.last (e.n + 1) e.t (fun r => 0 + if r = e.c.c then 1 else 0) := by
  rcases hG.each e (List.mem_of_getElem? ha) with h | ⟨_, hk, hO, hm, hI, _, hc, ht, _⟩
  · rw [hb] at h; cases h.1
  · obtain ⟨g1, g2, g3⟩ := mayF_ok hm
    rw [ht, hc]
    exact Meas.one hO hk g1 (fun k hk => ⟨g3 k hk, by have := (hI k (srt_mem.1 hk)).2; omega⟩)
/-- and behind the next one -/
theorem meas_to {G : List En} {s : Pl} (hG : Ghost G s) {i n : Nat} {p e : En} (hp : G[i]? = some p) (he : G[i + 1]? = some e) (pb : p.c.b = false) (eb : e.c.b = false) {R : List Int} {L : Int} {cnt : Int → Int} (M : Meas R L n p.t cnt) (hsub : ∀ r ∈ R, r ∈ e.c.R) :
    Meas R L (n + 1) e.t (fun r => cnt r + if r = e.c.c then 1 else 0) := by
  have hch := hG.chain i p e hp he pb eb
  rcases hG.each e (List.mem_of_getElem? he) with h | ⟨_, hk, hO, hm, hI, _, hc, ht, _⟩
  · rw [eb] at h; cases h.1
  · obtain ⟨g1, g2, g3⟩ := mayF_ok hm
    rw [hch] at hc ht
    rw [ht, hc]
    exact M.next g1 (fun k hk => ⟨g3 k hk, by have := (hI k (srt_mem.1 hk)).2; omega⟩) hsub
/-- what was told behind it -/
theorem told_at {G : List En} {s : Pl} (hG : Ghost G s) {a n : Nat} {e : En} (ha : G[a]? = some e) (hb : e.c.b = false) {R : List Int} {L : Int} {cnt : Int → Int} (M : Meas R L n e.t cnt) {r : Int} (hr : r ∈ R) :
    wOf (tlE e) r = val e.t.wt r ∧ 1 ≤ val e.t.wt r ∧ val e.t.wt r ≤ 8 := by
  rcases hG.each e (List.mem_of_getElem? ha) with h | ⟨_, hk, hO, hm, hI, _, hc, ht, hks, _⟩
  · rw [hb] at h; cases h.1
  · have h1 := M.known r hr
    have h2 := share_told M.ok M.kind h1
    unfold tlE
    rw [if_neg (by rw [hb]; simp), wOf_told _ ((hks r).2 h1)]
    exact ⟨rfl, h2.1, h2.2.1⟩
theorem told_short {G : List En} {s : Pl} (hG : Ghost G s) {e : En} (he : e ∈ G) : (tlE e).length ≤ 4194304 := by
  unfold tlE
  split
  · simp
  · rw [told_len]
    rcases hG.each e he with h | h
    · rename_i h2; exact absurd h.1 h2
    · exact h.2.2.2.2.2.2.2.2.2
theorem ready_short {G : List En} {s : Pl} (hG : Ghost G s) {e : En} (he : e ∈ G) : e.c.R.length ≤ 1048576 := by
  rcases hG.each e he with h | h
  · rw [h.2]; simp
  · exact h.2.2.2.2.2.1
/-- as the law asks it -/
theorem meas_law {G : List En} {s : Pl} (hG : Ghost G s) {a n : Nat} {e : En} (ha : G[a]? = some e) (hb : e.c.b = false) {R : List Int} {L : Int} {cnt : Int → Int} (M : Meas R L n e.t cnt) {C : List Int} (hC : ∀ i, i < R.length → C.getD i 0 = cnt (R.getD i 0)) :
    (∀ r ∈ R, 1 ≤ wOf (tlE e) r ∧ wOf (tlE e) r ≤ 8) ∧ ∀ i k, i < R.length → k < R.length → C.getD i 0 * stp (wOf (tlE e) (R.getD i 0)) - C.getD k 0 * stp (wOf (tlE e) (R.getD k 0)) ≤ stp (wOf (tlE e) (R.getD i 0)) + stp (wOf (tlE e) (R.getD k 0)) ∧ -(stp (wOf (tlE e) (R.getD i 0)) + stp (wOf (tlE e) (R.getD k 0))) ≤ C.getD i 0 * stp (wOf (tlE e) (R.getD i 0)) - C.getD k 0 * stp (wOf (tlE e) (R.getD k 0)) := by
  refine ⟨fun r hr => by rw [(told_at hG ha hb M hr).1]; exact (told_at hG ha hb M hr).2, fun i k hi hk => ?_⟩
  have hm : ∀ j, j < R.length → R.getD j 0 ∈ R := fun j hj => by
    rw [List.getD_eq_getElem?_getD, List.getElem?_eq_getElem hj, Option.getD_some]
    exact List.getElem_mem _
  rw [hC i hi, hC k hk, (told_at hG ha hb M (hm i hi)).1, (told_at hG ha hb M (hm k hk)).1]
  exact M.two (hm i hi) (hm k hk)
end Go.Proofs.Ytngmnlmagbfijaa
