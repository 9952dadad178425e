import Derived.Test.YtngmnlmagbfijabCL
namespace Go.Proofs.Ytngmnlmagbfijab
open Go.RowKit
theorem growR_se (kd : Nat) (r : Rw) : (growR kd r).se = r.se := by unfold growR; split <;> rfl
theorem bestD_se (kd : Nat) (r : Rw) : (bestD kd r).se = r.se := by
  unfold bestD
  split
  · rfl
  · split
    · rfl
    · exact growR_se kd r
/-- what a choice leaves of a row -/
def endR (kd : Nat) (last : Int) (R : List Int) (r : Rw) : Rw := if kd = 3 then growR kd (updD kd last R r) else updD kd last R r
theorem endR_se (kd : Nat) (last : Int) (R : List Int) (r : Rw) : (endR kd last R r).se = r.se := by
  unfold endR
  split
  · rw [growR_se]; rfl
  · rfl
theorem endR_map (kd : Nat) (last : Int) (R : List Int) (L : List Rw) : (if kd = 3 then (L.map (updD kd last R)).map (growR kd) else L.map (updD kd last R)) = L.map (endR kd last R) := by
  unfold endR
  by_cases h : kd = 3
  · simp [h]
  · simp [h]
/-- the document's map behind a choice -/
def nextF (kd : Nat) (last : Int) (f : Int → Option Kp) (R : List Int) (x : Rw) : Int → Option Kp := setF (fun k => (admD f R k).map (fun v => (endR kd last R ⟨k, v.1, v.2.1, v.2.2⟩).kp)) x.se (bestD kd x).kp
theorem agf_next {s : Pl} {f : Int → Option Kp} {last : Int} (h : AgF s f last) {n : Nat} (ho : Okp n s) {R : List Int} (hp : prB R = true) (hne : R ≠ []) {L1 : List Rw} (hr : RelR L1 (admD f R)) {b : Nat} {x : Rw} (hb : bstI s.kind last (L1.map (updD s.kind last R)) L1.length = some b) (hx : (L1.map (updD s.kind last R))[b]? = some x) :
    RelR ((if s.kind = 3 then (L1.map (updD s.kind last R)).map (growR s.kind) else L1.map (updD s.kind last R)).set b (bestD s.kind x)) (nextF s.kind last f R x) ∧ AgF (nextP s (srt R)) (nextF s.kind last f R x) (lastD s.kind last x) := by
  obtain ⟨hpk, hxw⟩ := h.who ho hp hne hr hb hx
  have hrdx := h.ready ho hr (List.mem_of_getElem? hx) hxw
  have hgx : ∃ y, L1[b]? = some y ∧ x = updD s.kind last R y := by
    rw [List.getElem?_map] at hx
    cases hy : L1[b]? with
    | none => rw [hy] at hx; cases hx
    | some y => rw [hy] at hx; exact ⟨y, rfl, (Option.some.inj hx).symm⟩
  obtain ⟨y, hy, hyx⟩ := hgx
  have hys : y.se = x.se := by rw [hyx]; rfl
  refine ⟨?_, ?_⟩
  · rw [endR_map]
    have h1 := hr.map (endR s.kind last R) (endR_se s.kind last R)
    have h2 : (L1.map (endR s.kind last R))[b]? = some (endR s.kind last R y) := by rw [List.getElem?_map, hy]; rfl
    have h3 := h1.set h2 (r' := bestD s.kind x) (by rw [bestD_se, endR_se, hys])
    rw [endR_se, hys] at h3
    exact h3
  · have hse : x.se ∈ R := hrdx.1
    have hf : ∀ k, nextF s.kind last f R x k = if k = x.se then some (bestD s.kind x).kp else (admD f R k).map (fun v => (endR s.kind last R ⟨k, v.1, v.2.1, v.2.2⟩).kp) := fun k => rfl
    have hend : ∀ k v, admD f R k = some v → (endR s.kind last R ⟨k, v.1, v.2.1, v.2.2⟩).wt = v.1 := fun k v _ => by unfold endR growR updD; split <;> (try split) <;> rfl
    have hxadm : admW s R x.se = some x.wt := by
      have := hr.val y (List.mem_of_getElem? hy)
      rw [hys] at this
      have h9 := (h.row ho this).1
      rw [h9, hyx]; rfl
    have hbw : (bestD s.kind x).wt = x.wt := by unfold bestD growR; split <;> (try split) <;> (try split) <;> rfl
    have hwt : ∀ k, admW s R k = (nextF s.kind last f R x k).map (·.1) := fun k => by
      rw [hf k]
      by_cases hk : k = x.se
      · rw [if_pos hk, hk, hxadm]
        show some x.wt = some (bestD s.kind x).kp.1
        unfold Rw.kp; rw [hbw]
      · rw [if_neg hk]
        cases hv : admD f R k with
        | none =>
          have : k ∉ R := fun hR => by unfold admD at hv; rw [if_pos hR] at hv; cases hv
          unfold admD at hv
          rw [if_neg this] at hv
          unfold admW
          rw [if_neg this, h.kn k, hv]; rfl
        | some v =>
          rw [(h.row ho hv).1]
          show some v.1 = some (endR s.kind last R ⟨k, v.1, v.2.1, v.2.2⟩).kp.1
          unfold Rw.kp; rw [hend k v hv]
    have hsn : srt R ≠ [] := fun h9 => hne (List.eq_nil_of_length_eq_zero (by rw [← srt_len R, h9]; rfl))
    rcases ho.kind with e | e | e
    · have hnx : nextP s (srt R) = { s with wt := admW s (srt R), last := pick s (srt R) } := by unfold nextP; rw [if_pos e]
      rw [hnx]
      refine ⟨fun k => by rw [← hwt k, ← admW_srt' s R], fun _ => ⟨?_, fun k v hv => ?_⟩, fun e2 => ?_, fun e2 => ?_⟩
      · show pick s (srt R) = _
        unfold lastD
        rw [if_pos e, hpk]
      · rw [hf k] at hv
        by_cases hk : k = x.se
        · rw [if_pos hk] at hv
          cases hv
          unfold bestD
          rw [if_pos e]
          show x.ps = 0
          rw [hyx]
          unfold updD pqD
          dsimp only
          rw [if_neg (fun h9 => by omega), if_neg (fun h9 => by omega)]
          exact (h.row ho (hr.val y (List.mem_of_getElem? hy))).2.1 e
        · rw [if_neg hk] at hv
          cases hu : admD f R k with
          | none => rw [hu] at hv; cases hv
          | some u =>
            rw [hu] at hv
            cases hv
            dsimp only
            unfold endR
            rw [if_neg (by omega)]
            unfold updD pqD Rw.kp
            dsimp only
            rw [if_neg (fun h9 => by omega), if_neg (fun h9 => by omega)]
            exact (h.row ho hu).2.1 e
      · exfalso; have e3 : s.kind = 2 := e2; omega
      · exfalso; have e3 : s.kind = 3 := e2; omega
    · have hnx : nextP s (srt R) = { s with wt := admW s (srt R), last := val (admP s (srt R)) (pick s (srt R)), ps := upd (admP s (srt R)) (pick s (srt R)) (val (admP s (srt R)) (pick s (srt R)) + stp (val (admW s (srt R)) (pick s (srt R)))) } := by unfold nextP; rw [if_neg (by omega), if_pos e]
      have hvx := hrdx.2.2.1 e
      have hwx := hrdx.2.1
      have hls := (h.fs e).1
      have hst : 105 ≤ stp x.wt := by
        have h9 := hxadm
        unfold admW at h9
        rw [if_pos hse] at h9
        have h8 := Option.some.inj h9
        cases hw : s.wt x.se with
        | none => rw [hw] at h8; simp at h8; rw [← h8]; decide
        | some u => rw [hw] at h8; simp at h8; have h7 := ho.wt _ _ hw; rw [← h8]; exact (stp_bd h7.2.2.1 h7.2.2.2).1
      have hmin : ∀ k ∈ srt R, x.ps ≤ val (admP s (srt R)) k := fun k hk => by
        rw [← hvx, hpk]
        unfold Go.Proofs.Ytngmnlmagbfijab.pick
        rw [if_neg (by omega), if_pos e]
        exact pmin_le _ _ _ k (by rw [head_tail hsn]; exact hk)
      rw [hnx]
      refine ⟨fun k => by rw [← hwt k, ← admW_srt' s R], fun e2 => ?_, fun _ => ⟨?_, fun k v hv => ?_⟩, fun e2 => ?_⟩
      · exfalso; have e3 : s.kind = 1 := e2; omega
      · show val (admP s (srt R)) (pick s (srt R)) = _
        rw [← hpk, hvx]
        unfold lastD
        rw [if_neg (by omega), if_pos e]
      · rw [hf k] at hv
        show upd _ _ _ k = _ ∧ _
        have hld : lastD s.kind last x = x.ps := by unfold lastD; rw [if_neg (by omega), if_pos e]
        rw [hld]
        unfold upd
        rw [← hpk, hvx, hwx]
        by_cases hk : k = x.se
        · rw [if_pos hk] at hv ⊢
          cases hv
          unfold bestD
          rw [if_neg (by omega), if_pos e]
          exact ⟨rfl, fun _ => by show x.ps ≤ x.ps + stp x.wt; omega⟩
        · rw [if_neg hk] at hv ⊢
          cases hu : admD f R k with
          | none => rw [hu] at hv; cases hv
          | some u =>
            rw [hu] at hv
            cases hv
            obtain ⟨_, h5, h6, h7⟩ := (h.row ho hu).2.2.1 e
            dsimp only
            unfold endR
            rw [if_neg (by omega)]
            unfold updD pqD Rw.kp
            dsimp only
            by_cases hkR : k ∈ R
            · have hap : admP s (srt R) k = some (max u.2.1 last) := by unfold admP; rw [if_pos (srt_mem.2 hkR), h5, hls]
              have hm := hmin k (srt_mem.2 hkR)
              unfold val at hm
              rw [hap] at hm
              simp only [Option.getD_some] at hm
              simp only [hkR, decide_true, e, true_and]
              by_cases hw : u.2.2 = false
              · rw [if_pos hw]
                exact ⟨hap, fun _ => hm⟩
              · have hw2 : u.2.2 = true := by simpa using hw
                have hl := h6 hw2
                rw [if_neg hw, if_neg (by simp)]
                have hmx : max u.2.1 last = u.2.1 := Int.max_eq_left hl
                rw [hmx] at hap hm
                exact ⟨hap, fun _ => hm⟩
            · have hap : admP s (srt R) k = some u.2.1 := by unfold admP; rw [if_neg (fun h9 => hkR (srt_mem.1 h9))]; exact h7 hkR
              simp only [hkR, decide_false, e]
              rw [if_neg (by simp), if_neg (by simp)]
              exact ⟨hap, fun h9 => by cases h9⟩
      · exfalso; have e3 : s.kind = 3 := e2; omega
    · have hnx : nextP s (srt R) = { s with wt := admW s (srt R), ps := fun k => if k ∈ srt R ∧ k ≠ pick s (srt R) then some (val s.ps k + 1) else none } := by unfold nextP; rw [if_neg (by omega), if_neg (by omega)]
      rw [hnx]
      refine ⟨fun k => by rw [← hwt k, ← admW_srt' s R], fun e2 => ?_, fun e2 => ?_, fun _ => ⟨fun k v hv => ?_, fun k hv => ?_⟩⟩
      · exfalso; have e3 : s.kind = 1 := e2; omega
      · exfalso; have e3 : s.kind = 2 := e2; omega
      · rw [hf k] at hv
        unfold val
        dsimp only
        rw [← hpk]
        by_cases hk : k = x.se
        · rw [if_pos hk] at hv
          rw [if_neg (fun h9 => h9.2 hk)]
          cases hv
          unfold bestD
          rw [if_neg (by omega), if_neg (by omega)]
          exact ⟨rfl, fun _ => rfl⟩
        · rw [if_neg hk] at hv
          cases hu : admD f R k with
          | none => rw [hu] at hv; cases hv
          | some u =>
            rw [hu] at hv
            cases hv
            obtain ⟨h5, h6⟩ := (h.row ho hu).2.2.2 e
            dsimp only
            unfold endR
            rw [if_pos e]
            unfold growR updD pqD Rw.kp
            dsimp only
            by_cases hkR : k ∈ R
            · rw [if_pos ⟨srt_mem.2 hkR, hk⟩]
              unfold val at h5
              simp only [hkR, decide_true, e, true_and, and_true, if_true, Option.getD_some]
              rw [if_neg (fun h9 => by omega)]
              by_cases hw : u.2.2 = false
              · rw [if_pos (.inr hw)]
                exact ⟨by rw [h5, h6 hw], fun h9 => by cases h9⟩
              · rw [if_neg (fun h9 => h9.elim (fun h8 => by cases h8) hw)]
                exact ⟨by rw [h5], fun h9 => by cases h9⟩
            · rw [if_neg (fun h9 => hkR (srt_mem.1 h9.1))]
              simp [hkR, e]
      · rw [hf k] at hv
        by_cases hk : k = x.se
        · rw [if_pos hk] at hv; cases hv
        · rw [if_neg hk] at hv
          have hn : k ∉ R := fun hR => by
            unfold admD at hv
            rw [if_pos hR] at hv
            cases hv
          unfold val
          dsimp only
          rw [if_neg (fun h9 => hn (srt_mem.1 h9.1))]; rfl
end Go.Proofs.Ytngmnlmagbfijab
