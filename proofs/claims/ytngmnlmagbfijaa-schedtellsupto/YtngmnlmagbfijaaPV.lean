import Derived.Test.YtngmnlmagbfijaaPU
namespace Go.Proofs.Ytngmnlmagbfijaa
/-- the weights are from 1 to 8 -/
def WB (s : Pl) : Prop := ∀ k v, s.wt k = some v → 1 ≤ v ∧ v ≤ 8
theorem WB.start (k : Nat) : WB (start k) := fun _ _ h => by simp [Go.Proofs.Ytngmnlmagbfijaa.start] at h
theorem admW_wb {s : Pl} (h : WB s) {R : List Int} {k v : Int} (hv : admW s R k = some v) : 1 ≤ v ∧ v ≤ 8 := by
  unfold admW at hv
  split at hv
  · simp at hv
    cases hw : s.wt k with
    | none => rw [hw] at hv; simp at hv; omega
    | some u => rw [hw] at hv; simp at hv; have := h k u hw; omega
  · exact h k v hv
theorem WB.next {s : Pl} (h : WB s) (R : List Int) : WB (nextP s R) := fun k v hv => by
  rw [nextP_wt] at hv; exact admW_wb h hv
theorem WB.step {s : Pl} (h : WB s) (o : Og) : WB (stepS s o) := by
  unfold stepS
  split
  · split
    · intro k v hv
      have hg : goodS o = true := by assumption
      unfold goodS at hg
      simp at hg
      simp only [setP, upd] at hv
      split at hv
      · simp at hv; omega
      · exact h k v hv
    · exact h
  · split
    · split
      · exact h.next _
      · exact h
    · exact h
theorem WB.run : ∀ (l : List Og) {s : Pl}, WB s → WB (runS s l)
  | [], _, h => h
  | o :: t, _, h => WB.run t (h.step o)
theorem chain_wb {L : List Ch} (hC : Chain L) (h0 : ∀ a, L[0]? = some a → WB a.s) : ∀ (i : Nat) (a : Ch), L[i]? = some a → WB a.s := by
  intro i
  induction i with
  | zero => exact h0
  | succ i ih =>
    intro a ha
    have hi : i < L.length := by have := (List.getElem?_eq_some_iff.1 ha).1; omega
    obtain ⟨l, _, h2⟩ := hC.2 i _ a (List.getElem?_eq_getElem hi) ha
    rw [h2]
    exact WB.run l ((ih _ (List.getElem?_eq_getElem hi)).next _)
theorem wait_step {a b : Ch} (hk : a.s.kind = 3) (hF : Follows a b) (ha : Okc a) (k : Int) : val b.s.ps k = if k ∈ a.R ∧ k ≠ a.c then val a.s.ps k + 1 else 0 := by
  obtain ⟨l, h1, h2⟩ := hF
  have hkn : (nextP a.s (srt a.R)).kind = 3 := by rw [nextP_kind]; exact hk
  have hl := (still_last l (nextP a.s (srt a.R)) h1 (by omega)).2
  have hps : (nextP a.s (srt a.R)).ps = fun k => if k ∈ srt a.R ∧ k ≠ pick a.s (srt a.R) then some (val a.s.ps k + 1) else none := by
    unfold nextP; rw [if_neg (by omega), if_neg (by omega)]
  have e : val b.s.ps k = val (nextP a.s (srt a.R)).ps k := by rw [h2, hl]
  rw [e, hps]
  unfold val
  rw [← ha.2.2]
  simp only [srt_mem]
  split <;> rfl
theorem wait_nn {L : List Ch} (hC : Chain L) (hk : ∀ x ∈ L, x.s.kind = 3) (hn0 : ∀ a, L[0]? = some a → ∀ k, 0 ≤ val a.s.ps k) : ∀ (i : Nat) (a : Ch), L[i]? = some a → ∀ k, 0 ≤ val a.s.ps k := by
  intro i
  induction i with
  | zero => exact hn0
  | succ i ih =>
    intro a ha k
    have hi : i < L.length := by have := (List.getElem?_eq_some_iff.1 ha).1; omega
    have hx := List.getElem?_eq_getElem hi
    rw [wait_step (hk _ (List.getElem_mem hi)) (hC.2 i _ a hx ha) (hC.1 _ (List.getElem_mem hi)) k]
    have := ih _ hx k
    split <;> omega
/-- who has waited so long was ready, and not chosen, so long -/
theorem waited {L : List Ch} (hC : Chain L) (hk : ∀ x ∈ L, x.s.kind = 3) (k : Int) : ∀ (d t : Nat) (y : Ch), L[t]? = some y → d ≤ t → (d : Int) ≤ val y.s.ps k → ∀ j x, t - d ≤ j → j < t → L[j]? = some x → k ∈ x.R ∧ k ≠ x.c := by
  intro d
  induction d with
  | zero => intro t y _ _ _ j x h1 h2; omega
  | succ d ih =>
    intro t y hy hdt hv j x hj1 hj2 hx
    obtain ⟨t, rfl⟩ : ∃ u, t = u + 1 := ⟨t - 1, by omega⟩
    have ht : t < L.length := by have := (List.getElem?_eq_some_iff.1 hy).1; omega
    have hz := List.getElem?_eq_getElem ht
    have hs := wait_step (hk _ (List.getElem_mem ht)) (hC.2 t _ y hz hy) (hC.1 _ (List.getElem_mem ht)) k
    rw [hs] at hv
    by_cases hc : k ∈ (L[t]).R ∧ k ≠ (L[t]).c
    · rw [if_pos hc] at hv
      by_cases hjt : j = t
      · subst hjt
        rw [hz] at hx
        cases hx
        exact hc
      · exact ih t _ hz (by omega) (by omega) j x (by omega) (by omega) hx
    · rw [if_neg hc] at hv
      omega
/-- who is always ready and never chosen has waited all the while -/
theorem waiting {L : List Ch} (hC : Chain L) (hk : ∀ x ∈ L, x.s.kind = 3) (hn0 : ∀ a, L[0]? = some a → ∀ k, 0 ≤ val a.s.ps k) (who : Int) (b : Nat) (hw : ∀ j x, j ≤ b → L[j]? = some x → x.c ≠ who ∧ who ∈ x.R) : ∀ (t : Nat) (y : Ch), t ≤ b → L[t]? = some y → (t : Int) ≤ val y.s.ps who := by
  intro t
  induction t with
  | zero => intro y _ hy; exact hn0 y hy who
  | succ t ih =>
    intro y htb hy
    have ht : t < L.length := by have := (List.getElem?_eq_some_iff.1 hy).1; omega
    have hz := List.getElem?_eq_getElem ht
    have hs := wait_step (hk _ (List.getElem_mem ht)) (hC.2 t _ y hz hy) (hC.1 _ (List.getElem_mem ht)) who
    obtain ⟨h1, h2⟩ := hw t _ (by omega) hz
    rw [hs, if_pos ⟨h2, fun e => h1 e.symm⟩]
    have := ih _ (by omega) hz
    omega
theorem score {x : Ch} (hk : x.s.kind = 3) (hO : Okc x) {who : Int} (hw : who ∈ x.R) (hWB : WB x.s) (t : Int) (ht : t ≤ val x.s.ps who) : t - 7 ≤ val x.s.ps x.c := by
  have hp : x.c = pmax (fun k => val (admW x.s (srt x.R)) k + val x.s.ps k) ((srt x.R).headD 0) (srt x.R).tail := by
    rw [hO.2.2]; unfold pick; rw [if_neg (by omega), if_neg (by omega)]
  have h1 := pmax_le (fun k => val (admW x.s (srt x.R)) k + val x.s.ps k) (srt x.R).tail ((srt x.R).headD 0) who (by rw [head_tail hO.1]; exact srt_mem.2 hw)
  rw [← hp] at h1
  have hb : ∀ k ∈ srt x.R, 1 ≤ val (admW x.s (srt x.R)) k ∧ val (admW x.s (srt x.R)) k ≤ 8 := fun k hk => by
    have h2 := (adm_some (s := x.s) hk).1
    have h3 := admW_wb hWB h2
    unfold val; rw [h2]; exact h3
  have h2 := hb who (srt_mem.2 hw)
  have h3 := hb x.c (by rw [hO.2.2]; exact pick_mem hO.1)
  omega
theorem nr_of (L : List Ch) (hC : Chain L) (hk : ∀ x ∈ L, x.s.kind = 3) (hw0 : ∀ (i : Nat) (a : Ch), L[i]? = some a → WB a.s) (hn0 : ∀ a, L[0]? = some a → ∀ k, 0 ≤ val a.s.ps k) (l : List Cz) (hl : l.map (fun c => (c.R, c.c)) = L.map (fun x => (x.R, x.c))) (who : Int) : NR l who := by
  intro b hb hw
  have hlen : l.length = L.length := by simpa using congrArg List.length hl
  have hget : ∀ (j : Nat) (x : Ch), L[j]? = some x → ∃ c, l[j]? = some c ∧ c.R = x.R ∧ c.c = x.c := fun j x hx => by
    have h1 := congrArg (fun t => t[j]?) hl
    simp only [List.getElem?_map, hx, Option.map_some] at h1
    cases hc : l[j]? with
    | none => rw [hc] at h1; simp at h1
    | some c => rw [hc] at h1; simp at h1; exact ⟨c, rfl, h1.1, h1.2⟩
  have hw2 : ∀ j x, j ≤ b → L[j]? = some x → x.c ≠ who ∧ who ∈ x.R := fun j x hj hx => by
    obtain ⟨c, h1, h2, h3⟩ := hget j x hx
    have := hw j c hj h1
    rw [← h2, ← h3]; exact this
  by_cases hsm : ∃ j c, j ≤ b ∧ l[j]? = some c ∧ b + 1 < 8 + c.R.length
  · exact hsm
  exfalso
  have hge : ∀ (j : Nat) (x : Ch), j ≤ b → L[j]? = some x → 8 + x.R.length ≤ b + 1 := fun j x hj hx => by
    obtain ⟨c, h1, h2, h3⟩ := hget j x hx
    rcases Nat.lt_or_ge (b + 1) (8 + c.R.length) with h | h
    · exact absurd ⟨j, c, hj, h1, h⟩ hsm
    · rw [← h2]; exact h
  obtain ⟨x0, hx0⟩ : ∃ x, L[0]? = some x := ⟨L[0]'(by omega), List.getElem?_eq_getElem _⟩
  have h7 : 7 ≤ b := by have := hge 0 x0 (by omega) hx0; omega
  obtain ⟨x7, hx7⟩ : ∃ x, L[7]? = some x := ⟨L[7]'(by omega), List.getElem?_eq_getElem _⟩
  have hn7 := hge 7 x7 h7 hx7
  have key : ∀ (i : Nat) (y : Ch), 7 + i ≤ b → L[7 + i]? = some y → ∀ j x, 7 ≤ j → j < 7 + i → L[j]? = some x → y.c ∈ x.R ∧ y.c ≠ x.c := fun i y hib hy => by
    have h1 := waiting hC hk hn0 who b hw2 (7 + i) y hib hy
    have h2 := score (hk y (List.mem_of_getElem? hy)) (hC.1 y (List.mem_of_getElem? hy)) (hw2 (7 + i) y hib hy).2 (hw0 _ y hy) _ h1
    have h3 := waited hC hk y.c i (7 + i) y hy (by omega) (by omega)
    intro j x hj1 hj2 hx
    exact h3 j x (by omega) hj2 hx
  have hT : (((L.drop 7).take (x7.R.length + 1)).map (·.c)).length ≤ x7.R.length := by
    apply nodup_le
    · rw [List.Nodup, List.pairwise_map, List.pairwise_iff_getElem]
      intro i j hi hj hij
      rw [List.length_take, List.length_drop] at hi hj
      rw [List.getElem_take, List.getElem_take, List.getElem_drop, List.getElem_drop]
      exact (key j _ (by omega) (List.getElem?_eq_getElem (by omega)) (7 + i) _ (by omega) (by omega) (List.getElem?_eq_getElem (by omega))).2.symm
    · intro t ht
      obtain ⟨x, hx, rfl⟩ := List.mem_map.1 ht
      obtain ⟨i, hi, rfl⟩ := List.getElem_of_mem hx
      rw [List.length_take, List.length_drop] at hi
      rw [List.getElem_take, List.getElem_drop]
      by_cases hi0 : i = 0
      · subst hi0
        have : L[7 + 0]'(by omega) = x7 := by have := (List.getElem?_eq_some_iff.1 hx7).2; exact this
        rw [this]
        exact (hC.1 x7 (List.mem_of_getElem? hx7)).mem
      · exact (key i _ (by omega) (List.getElem?_eq_getElem (by omega)) 7 x7 (by omega) (by omega) hx7).1
  rw [List.length_map, List.length_take, List.length_drop] at hT
  omega
/-- by ranks nobody is passed over -/
theorem ranks_nr (os : List Og) (a : Nat) (who : Int) : NR ((runC (start 3) false os).drop a) who := by
  obtain ⟨L, h1, h2, h3, h4⟩ := chain_of os (start 3) false
  have hwb := chain_wb h2 (fun x hx => by obtain ⟨l2, _, e⟩ := h3 x hx; rw [e]; exact WB.run l2 (WB.start 3))
  have hk : ∀ x ∈ L, x.s.kind = 3 := h4
  have hnn := wait_nn h2 hk (fun x hx k => by
    obtain ⟨l2, q1, e⟩ := h3 x hx
    rw [e, (still_last l2 (start 3) q1 (by simp [start])).2]
    simp [val, start])
  exact nr_of (L.drop a) (h2.drop a) (fun x hx => hk x (List.mem_of_mem_drop hx)) (fun i x hx => by rw [List.getElem?_drop] at hx; exact hwb _ x hx) (fun x hx => by rw [List.getElem?_drop] at hx; exact hnn _ x hx) _ (by rw [List.map_drop, List.map_drop, h1]) who
end Go.Proofs.Ytngmnlmagbfijaa
