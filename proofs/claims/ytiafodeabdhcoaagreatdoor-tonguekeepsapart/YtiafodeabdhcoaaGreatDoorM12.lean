import Derived.Test.YtiafodeabdhcoaaGreatDoorM11
namespace Go.Proofs.YtiafodeabdhcoaaGreatDoor
open Go.RowKit
theorem slK_mk {word : Tx} {v : Vr} {idx val : Option Ex} {body : Option Sl} {oth : Nat} {rest next : Option Sl} (h1 : v.size ≤ 4294967295) (h2 : v.at' ≤ 4294967295) (h3 : word = [61] → (idx = none → 384 ≤ v.at' ∧ v.at' < 480) ∧ (idx ≠ none → 384 ≤ v.at' ∧ v.at' + v.size ≤ 480)) (h4 : word = [61] ∨ word = [105, 102] ∨ word = [119, 104, 105, 108, 101] ∨ word = [101, 109, 105, 116] ∨ word = [115, 116, 111, 112] → val ≠ none) (h5 : exOK idx) (h6 : exOK val) (h7 : slOK body) (h8 : slOK rest) (h9 : slOK next) : slK ⟨word, v, idx, val, body, oth, rest, next⟩ := by
  unfold slK
  refine ⟨h1, h2, h3, h4, h5, h6, ?_, ?_, ?_⟩
  · cases body <;> exact h7
  · cases rest <;> exact h8
  · cases next <;> exact h9
theorem slK_next {s : Sl} {o : Option Sl} (h : slK s) (ho : slOK o) : slK { s with next := o } := by
  obtain ⟨word, v, idx, val, body, oth, rest, next⟩ := s
  obtain ⟨h1, h2, h3, h4, h5, h6, h7, h8, h9⟩ := slK_of h
  exact slK_mk h1 h2 h3 h4 h5 h6 h7 h8 ho
theorem slN_put (s : Sl) (o : Option Sl) : slN { s with next := o } ≤ slN s + slO o := by
  rw [slN_eq, slN_eq]
  simp only
  omega
section
variable {ts : List Tk}
theorem fl_assign (r : Rd) : Fl r (r.assign ts).2 := by
  have h1 := fl_named (ts := ts) r
  unfold Rd.assign
  generalize r.named ts = v at *
  obtain ⟨v1, r1⟩ := v
  simp only at h1 ⊢
  split
  · have h2 := fl_whole (ts := ts) r1.step
    generalize Rd.whole ts r1.step = i at *
    obtain ⟨i1, r2⟩ := i
    have h5 := fl_whole (ts := ts) ((r2.take ts [93]).take ts [61])
    have h3 := (fl_take (ts := ts) r2 [93]).trans (fl_take (ts := ts) (r2.take ts [93]) [61])
    generalize Rd.whole ts ((r2.take ts [93]).take ts [61]) = e at *
    obtain ⟨e1, r3⟩ := e
    exact (((h1.trans (fl_step r1)).trans h2).trans (h3.trans h5)).trans (fl_take r3 [59])
  · have h5 := fl_whole (ts := ts) (r1.take ts [61])
    generalize Rd.whole ts (r1.take ts [61]) = e at *
    obtain ⟨e1, r3⟩ := e
    exact ((h1.trans (fl_take r1 [61])).trans h5).trans (fl_take r3 [59])
theorem fl_telling (r : Rd) (s : Tx) : Fl r (r.telling ts s).2 := by
  have h5 := fl_whole (ts := ts) (r.take ts s)
  unfold Rd.telling
  generalize Rd.whole ts (r.take ts s) = e at *
  obtain ⟨e1, r3⟩ := e
  exact ((fl_take r s).trans h5).trans (fl_take r3 [59])
theorem fl_bare (r : Rd) (t : Tk) : Fl r (r.bare ts t).2 := by
  unfold Rd.bare
  simp only
  split
  · exact ((fl_name r _).trans (fl_take _ _)).trans (fl_take _ _)
  · exact (fl_take _ _).trans (fl_take _ _)
theorem fl_enter (r : Rd) : Fl r (r.enter ts) := by
  have h : Fl r { (if 16 ≤ (r.take ts [123]).blocks then (r.take ts [123]).ndep (r.see ts).line else r.take ts [123]) with blocks := (if 16 ≤ (r.take ts [123]).blocks then (r.take ts [123]).ndep (r.see ts).line else r.take ts [123]).blocks + 1 } := by
    split
    · exact ⟨fun e => (fl_take r [123]).form ((fl_dep _ _).form e), fun e => (fl_take r [123]).nam ((fl_dep _ _).nam e), fun e => (fl_take r [123]).dat ((fl_dep _ _).dat e)⟩
    · exact ⟨(fl_take r [123]).form, (fl_take r [123]).nam, (fl_take r [123]).dat⟩
  exact h
theorem fl_leave (r : Rd) : Fl r (r.leave ts) := by
  have h : Fl r ({ r with blocks := r.blocks - 1 } : Rd) := ⟨id, id, id⟩
  exact h.trans (fl_take _ _)
theorem fl_ps : ∀ (n t : Nat) (r : Rd), Fl r (psF ts n t r).2
  | 0, _, r => by simp only [psF]; exact Fl.refl r
  | n + 1, 0, r => by
    simp only [psF]
    split
    · next s r1 he =>
      have h1 : Fl r r1 := by
        split at he
        · have e2 := Option.some.inj he; have h2 := fl_ps n 2 r; rw [e2] at h2; exact h2
        · split at he
          · have e2 := Option.some.inj he; have h2 := fl_ps n 3 r; rw [e2] at h2; exact h2
          · split at he
            · cases he; exact fl_telling r _
            · split at he
              · cases he; exact fl_bare r _
              · split at he
                · cases he; exact fl_ps n 1 r
                · split at he
                  · cases he; exact fl_assign r
                  · cases he
      exact h1.trans (fl_ps n 0 r1)
    · exact Fl.refl r
  | n + 1, 1, r => by
    simp only [psF]
    exact ((fl_enter r).trans (fl_ps n 0 _)).trans (fl_leave _)
  | n + 1, 2, r => by
    simp only [psF]
    have h1 := fl_whole (ts := ts) (r.take ts [105, 102])
    generalize Rd.whole ts (r.take ts [105, 102]) = e at *
    obtain ⟨e1, r1⟩ := e
    have h2 := fl_ps n 1 r1
    simp only at h1 ⊢
    generalize psF ts n 1 r1 = b at *
    obtain ⟨b1, r2⟩ := b
    have hb := ((fl_take (ts := ts) r [105, 102]).trans h1).trans h2
    simp only at hb ⊢
    split
    · split
      · exact (hb.trans (fl_step r2)).trans (fl_ps n 2 r2.step)
      · exact (hb.trans (fl_step r2)).trans (fl_ps n 1 r2.step)
    · exact hb
  | n + 1, t + 3, r => by
    simp only [psF]
    have h1 := fl_whole (ts := ts) (r.take ts [119, 104, 105, 108, 101])
    generalize Rd.whole ts (r.take ts [119, 104, 105, 108, 101]) = e at *
    obtain ⟨e1, r1⟩ := e
    have ha := (fl_take (ts := ts) r [119, 104, 105, 108, 101]).trans h1
    have hb := fl_ps n 1 { r1 with loops := r1.loops + 1 }
    simp only at ha ⊢
    generalize psF ts n 1 { r1 with loops := r1.loops + 1 } = b at *
    obtain ⟨b1, r2⟩ := b
    exact ⟨fun e => ha.form (hb.form e), fun e => ha.nam (hb.nam e), fun e => ha.dat (hb.dat e)⟩
theorem assign_ok (hT : TsL ts) (r : Rd) (hV : VG r) (hk : (r.see ts).kind = 4) (hf : (r.assign ts).2.form = 0) (hn : (r.assign ts).2.nam = 0) : slK (r.assign ts).1 := by
  have hnk := fun h => named_ok (ts := ts) hT hk h
  have hfr := fr_named (ts := ts) r
  unfold Rd.assign at hf hn ⊢
  generalize r.named ts = v at *
  obtain ⟨v1, r1⟩ := v
  simp only at hf hn hnk hfr ⊢
  by_cases hi : r1.is ts [91] = true
  · rw [if_pos hi] at hf hn ⊢
    have w1 := whole_ok hT r1.step (hV.fr (hfr.trans (fr_step r1)))
    have l1 := fl_whole (ts := ts) r1.step
    have q1 := fr_whole (ts := ts) r1.step
    generalize Rd.whole ts r1.step = i at *
    obtain ⟨i1, r2⟩ := i
    simp only at hf hn w1 l1 q1 ⊢
    have l2 := (fl_take (ts := ts) r2 [93]).trans (fl_take (ts := ts) (r2.take ts [93]) [61])
    have q2 := (fr_take (ts := ts) r2 [93]).trans (fr_take (ts := ts) (r2.take ts [93]) [61])
    generalize (r2.take ts [93]).take ts [61] = r3 at *
    have w3 := whole_ok hT r3 (hV.fr (((hfr.trans (fr_step r1)).trans q1).trans q2))
    have l3 := fl_whole (ts := ts) r3
    generalize Rd.whole ts r3 = e at *
    obtain ⟨e1, r4⟩ := e
    simp only at hf hn w3 l3 ⊢
    have l4 := fl_take (ts := ts) r4 [59]
    have n4 := l4.nam hn; have f4 := l4.form hf
    have n2 := l2.nam (l3.nam n4); have f2 := l2.form (l3.form f4)
    obtain ⟨hv, hv2, hv3⟩ := hnk (l1.nam n2)
    obtain ⟨g1, g2, g3⟩ := hV _ hv
    exact slK_mk (by show v1.size ≤ _; omega) (by show v1.at' ≤ _; omega) (fun _ => ⟨fun h => (by cases h), fun _ => ⟨g1, g2⟩⟩) (fun _ => by simp) (w1 f2 n2) (w3 f4 n4) trivial trivial trivial
  · rw [if_neg hi] at hf hn ⊢
    have l2 := fl_take (ts := ts) r1 [61]
    have q2 := fr_take (ts := ts) r1 [61]
    generalize r1.take ts [61] = r3 at *
    have w3 := whole_ok hT r3 (hV.fr (hfr.trans q2))
    have l3 := fl_whole (ts := ts) r3
    generalize Rd.whole ts r3 = e at *
    obtain ⟨e1, r4⟩ := e
    simp only at hf hn w3 l3 ⊢
    have l4 := fl_take (ts := ts) r4 [59]
    have n4 := l4.nam hn; have f4 := l4.form hf
    obtain ⟨hv, hv2, hv3⟩ := hnk (l2.nam (l3.nam n4))
    obtain ⟨g1, g2, g3⟩ := hV _ hv
    rw [hv2] at hi
    have ha0 : v1.arr = false := by rw [hv3]; simpa using hi
    have g4 := g3 ha0
    exact slK_mk (by show v1.size ≤ _; omega) (by show v1.at' ≤ _; omega) (fun _ => ⟨fun _ => ⟨g1, by show v1.at' < _; omega⟩, fun h => absurd rfl h⟩) (fun _ => by simp) trivial (w3 f4 n4) trivial trivial trivial
theorem telling_ok (hT : TsL ts) (r : Rd) (w : Tx) (hw : w ≠ [61]) (hV : VG r) (hf : (r.telling ts w).2.form = 0) (hn : (r.telling ts w).2.nam = 0) : slK (r.telling ts w).1 := by
  unfold Rd.telling at hf hn ⊢
  have w1 := whole_ok hT (r.take ts w) (hV.fr (fr_take r w))
  generalize Rd.whole ts (r.take ts w) = e at *
  obtain ⟨e1, r1⟩ := e
  simp only at hf hn w1 ⊢
  have h5 := fl_take (ts := ts) r1 [59]
  exact slK_mk (Nat.zero_le _) (Nat.zero_le _) (fun h => absurd h hw) (fun _ => by simp) trivial (w1 (h5.form hf) (h5.nam hn)) trivial trivial trivial
theorem Sl.of_ok {w : Tx} (h : w ≠ [61] ∧ w ≠ [105, 102] ∧ w ≠ [119, 104, 105, 108, 101] ∧ w ≠ [101, 109, 105, 116] ∧ w ≠ [115, 116, 111, 112]) {b : Option Sl} (hb : slOK b) : slK { Sl.of w with body := b } :=
  slK_mk (Nat.zero_le _) (Nat.zero_le _) (fun e => absurd e h.1) (fun e => by
    rcases e with e | e | e | e | e
    · exact absurd e h.1
    · exact absurd e h.2.1
    · exact absurd e h.2.2.1
    · exact absurd e h.2.2.2.1
    · exact absurd e h.2.2.2.2) trivial trivial hb trivial trivial
/-- what the next statement is, if there is one -/
def oneF (ts : List Tk) (n : Nat) (r : Rd) : Option (Option Sl × Rd) :=
  if (r.see ts).text = [105, 102] then some (psF ts n 2 r)
  else if (r.see ts).text = [119, 104, 105, 108, 101] then some (psF ts n 3 r)
  else if (r.see ts).text = [101, 109, 105, 116] ∨ (r.see ts).text = [115, 116, 111, 112] then some (some (r.telling ts (r.see ts).text).1, (r.telling ts (r.see ts).text).2)
  else if (r.see ts).text = [121, 105, 101, 108, 100] ∨ (r.see ts).text = [98, 114, 101, 97, 107] ∨ (r.see ts).text = [99, 111, 110, 116, 105, 110, 117, 101] then some (some (r.bare ts (r.see ts)).1, (r.bare ts (r.see ts)).2)
  else if (r.see ts).text = [123] then some (some { Sl.of [123] with body := (psF ts n 1 r).1 }, (psF ts n 1 r).2)
  else if (r.see ts).kind = 4 then some (some (r.assign ts).1, (r.assign ts).2)
  else none
theorem psz_eq (n : Nat) (r : Rd) : psF ts (n + 1) 0 r = match oneF ts n r with
    | some (some s, r1) => (some { s with next := (psF ts n 0 r1).1 }, (psF ts n 0 r1).2)
    | _ => (none, r) := by
  simp only [psF]
  rfl
theorem one_ok (hT : TsL ts) (n : Nat) (h2 : ∀ r, VG r → (psF ts n 2 r).2.form = 0 → (psF ts n 2 r).2.nam = 0 → slOK (psF ts n 2 r).1) (h3 : ∀ r, VG r → (psF ts n 3 r).2.form = 0 → (psF ts n 3 r).2.nam = 0 → slOK (psF ts n 3 r).1) (h1 : ∀ r, VG r → (psF ts n 1 r).2.form = 0 → (psF ts n 1 r).2.nam = 0 → slOK (psF ts n 1 r).1) (r : Rd) (hV : VG r) {s : Sl} {r1 : Rd} (he : oneF ts n r = some (some s, r1)) : r.Fr r1 ∧ (r1.form = 0 → r1.nam = 0 → slK s) := by
  unfold oneF at he
  split at he
  · have e2 := Option.some.inj he
    have q := fr_ps (ts := ts) n 2 r
    have k := h2 r hV
    rw [e2] at q k
    exact ⟨q, k⟩
  · split at he
    · have e2 := Option.some.inj he
      have q := fr_ps (ts := ts) n 3 r
      have k := h3 r hV
      rw [e2] at q k
      exact ⟨q, k⟩
    · split at he
      · next hw =>
        cases he
        exact ⟨fr_telling r _, telling_ok hT r _ (by rcases hw with e | e <;> rw [e] <;> decide) hV⟩
      · split at he
        · next hw =>
          cases he
          exact ⟨fr_bare r _, fun _ _ => Sl.of_ok (w := (r.see ts).text) (by rcases hw with e | e | e <;> rw [e] <;> decide) (b := none) trivial⟩
        · split at he
          · cases he
            exact ⟨fr_ps n 1 r, fun f n' => Sl.of_ok (w := [123]) (by decide) (h1 r hV f n')⟩
          · split at he
            · next h4 =>
              cases he
              exact ⟨fr_assign r, assign_ok hT r hV h4⟩
            · cases he
theorem VG.enter {r : Rd} (h : VG r) : VG (r.enter ts) := fun v hv => h v (by rw [← (enter_fr (ts := ts) r).1]; exact hv)
/-- what is read of a source without a fault is what the coder takes -/
theorem ps_ok (hT : TsL ts) : ∀ (n t : Nat) (r : Rd), VG r → (psF ts n t r).2.form = 0 → (psF ts n t r).2.nam = 0 → slOK (psF ts n t r).1
  | 0, _, r, _, _, _ => by simp only [psF]; trivial
  | n + 1, 0, r, hV, hf, hn => by
    have h1 := @one_ok ts hT n (fun r => ps_ok hT n 2 r) (fun r => ps_ok hT n 3 r) (fun r => ps_ok hT n 1 r) r hV
    rw [psz_eq] at hf hn ⊢
    cases ho : oneF ts n r with
    | none => trivial
    | some p =>
      obtain ⟨o, r1⟩ := p
      cases o with
      | none => trivial
      | some s =>
        rw [ho] at hf hn
        simp only at hf hn ⊢
        obtain ⟨q, k⟩ := h1 ho
        have h0 := fl_ps (ts := ts) n 0 r1
        exact slK_next (k (h0.form hf) (h0.nam hn)) (ps_ok hT n 0 r1 (hV.fr q) hf hn)
  | n + 1, 1, r, hV, hf, hn => by
    simp only [psF] at hf hn ⊢
    have h1 := fl_leave (ts := ts) (psF ts n 0 (r.enter ts)).2
    exact ps_ok hT n 0 _ hV.enter (h1.form hf) (h1.nam hn)
  | n + 1, 2, r, hV, hf, hn => by
    simp only [psF] at hf hn ⊢
    have w1 := whole_ok hT (r.take ts [105, 102]) (hV.fr (fr_take r _))
    have q1 := (fr_take (ts := ts) r [105, 102]).trans (fr_whole (ts := ts) (r.take ts [105, 102]))
    generalize Rd.whole ts (r.take ts [105, 102]) = e at *
    obtain ⟨e1, r1⟩ := e
    simp only at hf hn w1 q1 ⊢
    have l2 := fl_ps (ts := ts) n 1 r1
    have q2 := q1.trans (fr_ps (ts := ts) n 1 r1)
    have k2 := ps_ok hT n 1 r1 (hV.fr q1)
    generalize psF ts n 1 r1 = b at *
    obtain ⟨b1, r2⟩ := b
    simp only at hf hn l2 q2 k2 ⊢
    have v4 : VG r2.step := hV.fr (q2.trans (fr_step r2))
    by_cases hi : r2.is ts [101, 108, 115, 101] = true
    · rw [if_pos hi] at hf hn ⊢
      by_cases hi2 : r2.step.is ts [105, 102] = true
      · rw [if_pos hi2] at hf hn ⊢
        have hc := fl_ps (ts := ts) n 2 r2.step
        have f2 : r2.form = 0 := hc.form hf
        have n2 : r2.nam = 0 := hc.nam hn
        exact slK_mk (Nat.zero_le _) (Nat.zero_le _) (fun h => absurd (show ([105, 102] : Tx) = [61] from h) (by decide)) (fun _ => by simp) trivial (w1 (l2.form f2) (l2.nam n2)) (k2 f2 n2) (ps_ok hT n 2 _ v4 hf hn) trivial
      · rw [if_neg hi2] at hf hn ⊢
        have hc := fl_ps (ts := ts) n 1 r2.step
        have f2 : r2.form = 0 := hc.form hf
        have n2 : r2.nam = 0 := hc.nam hn
        exact slK_mk (Nat.zero_le _) (Nat.zero_le _) (fun h => absurd (show ([105, 102] : Tx) = [61] from h) (by decide)) (fun _ => by simp) trivial (w1 (l2.form f2) (l2.nam n2)) (k2 f2 n2) (ps_ok hT n 1 _ v4 hf hn) trivial
    · rw [if_neg hi] at hf hn ⊢
      exact slK_mk (Nat.zero_le _) (Nat.zero_le _) (fun h => absurd (show ([105, 102] : Tx) = [61] from h) (by decide)) (fun _ => by simp) trivial (w1 (l2.form hf) (l2.nam hn)) (k2 hf hn) trivial trivial
  | n + 1, t + 3, r, hV, hf, hn => by
    simp only [psF] at hf hn ⊢
    have w1 := whole_ok hT (r.take ts [119, 104, 105, 108, 101]) (hV.fr (fr_take r _))
    have q1 := (fr_take (ts := ts) r [119, 104, 105, 108, 101]).trans (fr_whole (ts := ts) (r.take ts [119, 104, 105, 108, 101]))
    generalize Rd.whole ts (r.take ts [119, 104, 105, 108, 101]) = e at *
    obtain ⟨e1, r1⟩ := e
    simp only at hf hn w1 q1 ⊢
    have v1 : VG { r1 with loops := r1.loops + 1 } := fun v hv => hV.fr q1 v hv
    have l2 := fl_ps (ts := ts) n 1 { r1 with loops := r1.loops + 1 }
    have k2 := ps_ok hT n 1 { r1 with loops := r1.loops + 1 } v1
    generalize psF ts n 1 { r1 with loops := r1.loops + 1 } = b at *
    obtain ⟨b1, r2⟩ := b
    simp only at hf hn l2 k2 ⊢
    exact slK_mk (Nat.zero_le _) (Nat.zero_le _) (fun h => absurd (show ([119, 104, 105, 108, 101] : Tx) = [61] from h) (by decide)) (fun _ => by simp) trivial (w1 (l2.form hf) (l2.nam hn)) (k2 hf hn) trivial trivial
end
end Go.Proofs.YtiafodeabdhcoaaGreatDoor

namespace Go.Proofs.YtiafodeabdhcoaaGreatDoor
open Go.RowKit
section
variable {ts : List Tk}
theorem assign_n (r : Rd) : slN (r.assign ts).1 + 2 * r.at' ≤ 2 * (r.assign ts).2.at' := by
  have hna := named_at (ts := ts) r
  unfold Rd.assign
  generalize r.named ts = v at *
  obtain ⟨v1, r1⟩ := v
  simp only at hna ⊢
  split
  · have w1 := whole_n (ts := ts) r1.step
    generalize Rd.whole ts r1.step = i at *
    obtain ⟨i1, r2⟩ := i
    have q2 := ((fr_take (ts := ts) r2 [93]).trans (fr_take (ts := ts) (r2.take ts [93]) [61])).at'
    simp only at w1 ⊢
    generalize (r2.take ts [93]).take ts [61] = r3 at *
    have w3 := whole_n (ts := ts) r3
    generalize Rd.whole ts r3 = e at *
    obtain ⟨e1, r4⟩ := e
    have q4 := (fr_take (ts := ts) r4 [59]).at'
    have hs : r1.step.at' = r1.at' + 1 := rfl
    simp only at w3 ⊢
    rw [slN_eq]
    show 1 + exN i1 + exN e1 + 0 + 0 + 0 + _ ≤ _
    omega
  · have q2 := (fr_take (ts := ts) r1 [61]).at'
    generalize r1.take ts [61] = r3 at *
    have w3 := whole_n (ts := ts) r3
    generalize Rd.whole ts r3 = e at *
    obtain ⟨e1, r4⟩ := e
    have q4 := (fr_take (ts := ts) r4 [59]).at'
    simp only at w3 ⊢
    rw [slN_eq]
    show 1 + 0 + exN e1 + 0 + 0 + 0 + _ ≤ _
    omega
theorem telling_n (r : Rd) (w : Tx) (hw : (r.see ts).text = w) : slN (r.telling ts w).1 + 2 * r.at' ≤ 2 * (r.telling ts w).2.at' := by
  unfold Rd.telling
  rw [take_at hw]
  have w3 := whole_n (ts := ts) r.step
  generalize Rd.whole ts r.step = e at *
  obtain ⟨e1, r4⟩ := e
  have q4 := (fr_take (ts := ts) r4 [59]).at'
  have hs : r.step.at' = r.at' + 1 := rfl
  simp only at w3 ⊢
  rw [slN_eq]
  show 1 + 0 + exN e1 + 0 + 0 + 0 + _ ≤ _
  omega
theorem bare_n (r : Rd) : slN (r.bare ts (r.see ts)).1 + 2 * r.at' ≤ 2 * (r.bare ts (r.see ts)).2.at' := by
  have hn : ∀ (r : Rd) l, (r.nname l).at' = r.at' := fun r l => by unfold Rd.nname; split <;> rfl
  have hsee : ∀ (r : Rd) l, (r.nname l).see ts = r.see ts := fun r l => by unfold Rd.nname; split <;> rfl
  unfold Rd.bare
  simp only
  have e1 : ∀ s : Tx, slN (Sl.of s) = 1 := fun s => by rw [slN_eq]; rfl
  rw [e1]
  split
  · rw [take_at (ts := ts) (r := r.nname (r.see ts).line) (s := (r.see ts).text) (by rw [hsee])]
    have q4 := (fr_take (ts := ts) (r.nname (r.see ts).line).step [59]).at'
    have hs : (r.nname (r.see ts).line).step.at' = (r.nname (r.see ts).line).at' + 1 := rfl
    rw [hn] at hs
    omega
  · rw [take_at rfl]
    have q4 := (fr_take (ts := ts) r.step [59]).at'
    have hs : r.step.at' = r.at' + 1 := rfl
    omega
theorem slN_body (w : Tx) (b : Option Sl) : slN { Sl.of w with body := b } = 1 + slO b := by
  rw [slN_eq]
  show 1 + 0 + 0 + slO b + 0 + 0 = _
  omega
theorem is_text {r : Rd} {s : Tx} (h : r.is ts s = true) : (r.see ts).text = s := by unfold Rd.is at h; simpa using h
theorem one_n (n : Nat) (h2 : ∀ r : Rd, (r.see ts).text = [105, 102] → slO (psF ts n 2 r).1 + 3 * r.at' ≤ 3 * (psF ts n 2 r).2.at') (h3 : ∀ r : Rd, (r.see ts).text = [119, 104, 105, 108, 101] → slO (psF ts n 3 r).1 + 3 * r.at' ≤ 3 * (psF ts n 3 r).2.at') (h1 : ∀ r : Rd, (r.see ts).text = [123] → 1 + slO (psF ts n 1 r).1 + 3 * r.at' ≤ 3 * (psF ts n 1 r).2.at' + (if n = 0 then 1 else 0)) (r : Rd) {s : Sl} {r1 : Rd} (he : oneF ts n r = some (some s, r1)) : slN s + 3 * r.at' ≤ 3 * r1.at' + (if n = 0 then 1 else 0) := by
  unfold oneF at he
  split at he
  · next hw =>
    have e2 := Option.some.inj he
    have k := h2 r hw
    rw [e2] at k
    have : slN s + 3 * r.at' ≤ 3 * r1.at' := k
    omega
  · split at he
    · next hw =>
      have e2 := Option.some.inj he
      have k := h3 r hw
      rw [e2] at k
      have : slN s + 3 * r.at' ≤ 3 * r1.at' := k
      omega
    · split at he
      · cases he
        have := telling_n (ts := ts) r _ rfl
        have := (fr_telling (ts := ts) r (r.see ts).text).at'
        omega
      · split at he
        · cases he
          have := bare_n (ts := ts) r
          have := (fr_bare (ts := ts) r (r.see ts)).at'
          omega
        · split at he
          · next hw =>
            cases he
            rw [slN_body]
            exact h1 r hw
          · split at he
            · cases he
              have := assign_n (ts := ts) r
              have := (fr_assign (ts := ts) r).at'
              omega
            · cases he
/-- how many nodes are read -/
structure PsN (ts : List Tk) (n : Nat) : Prop where
  a : ∀ r : Rd, slO (psF ts n 0 r).1 + 3 * r.at' ≤ 3 * (psF ts n 0 r).2.at' + (if n = 0 then 0 else 1)
  b : ∀ r : Rd, slO (psF ts n 1 r).1 + 3 * r.at' ≤ 3 * (psF ts n 1 r).2.at' + 1
  c : ∀ r : Rd, (r.see ts).text = [123] → 1 + slO (psF ts n 1 r).1 + 3 * r.at' ≤ 3 * (psF ts n 1 r).2.at' + (if n = 0 then 1 else 0)
  d : ∀ r : Rd, (r.see ts).text = [105, 102] → slO (psF ts n 2 r).1 + 3 * r.at' ≤ 3 * (psF ts n 2 r).2.at'
  e : ∀ r : Rd, (r.see ts).text = [119, 104, 105, 108, 101] → slO (psF ts n 3 r).1 + 3 * r.at' ≤ 3 * (psF ts n 3 r).2.at'
theorem enter_at (r : Rd) : (r.enter ts).at' = (r.take ts [123]).at' := (enter_fr (ts := ts) r).2.2.2.2.2.2
theorem leave_at (r : Rd) : r.at' ≤ (r.leave ts).at' := by
  unfold Rd.leave
  exact (fr_take (ts := ts) { r with blocks := r.blocks - 1 } [125]).at'
theorem ps_n : ∀ n, PsN ts n
  | 0 => by
    refine ⟨fun r => ?_, fun r => ?_, fun r _ => ?_, fun r _ => ?_, fun r _ => ?_⟩
    all_goals simp only [psF, slO]
    all_goals simp
    all_goals omega
  | n + 1 => by
    have ih := ps_n n
    refine ⟨fun r => ?_, fun r => ?_, fun r hr => ?_, fun r hr => ?_, fun r hr => ?_⟩
    · rw [psz_eq]
      cases ho : oneF ts n r with
      | none => simp [slO]
      | some p =>
        obtain ⟨o, r1⟩ := p
        cases o with
        | none => simp [slO]
        | some s =>
          have h1 := one_n n ih.d ih.e ih.c r ho
          have h2 := ih.a r1
          have h3 := slN_put s (psF ts n 0 r1).1
          simp only
          show slN _ + _ ≤ _
          by_cases hn : n = 0
          · rw [if_pos hn] at h1 h2
            rw [if_neg (by omega)]
            omega
          · rw [if_neg hn] at h1 h2
            rw [if_neg (by omega)]
            omega
    · simp only [psF]
      have h1 := ih.a (r.enter ts)
      have h2 := leave_at (ts := ts) (psF ts n 0 (r.enter ts)).2
      have h3 := enter_at (ts := ts) r
      have h4 := (fr_take (ts := ts) r [123]).at'
      split at h1 <;> omega
    · simp only [psF]
      have h1 := ih.a (r.enter ts)
      have h2 := leave_at (ts := ts) (psF ts n 0 (r.enter ts)).2
      have h3 := enter_at (ts := ts) r
      rw [take_at hr] at h3
      have h4 : r.step.at' = r.at' + 1 := rfl
      split at h1 <;> simp <;> omega
    · simp only [psF]
      rw [take_at hr]
      have h4 : r.step.at' = r.at' + 1 := rfl
      have w1 := whole_n (ts := ts) r.step
      generalize Rd.whole ts r.step = e at *
      obtain ⟨e1, r1⟩ := e
      have q1 := fr_whole (ts := ts) r.step
      have hb := ih.b r1
      simp only at w1 ⊢
      generalize psF ts n 1 r1 = b at *
      obtain ⟨b1, r2⟩ := b
      simp only at hb ⊢
      have h5 : r2.step.at' = r2.at' + 1 := rfl
      split
      · split
        · next hi2 =>
          have hc := ih.d r2.step (is_text hi2)
          generalize psF ts n 2 r2.step = c at *
          obtain ⟨c1, r3⟩ := c
          simp only at hc ⊢
          show slN _ + _ ≤ _
          rw [slN_eq]
          show 1 + 0 + exN e1 + slO b1 + slO c1 + 0 + _ ≤ _
          omega
        · have hc := ih.b r2.step
          generalize psF ts n 1 r2.step = c at *
          obtain ⟨c1, r3⟩ := c
          simp only at hc ⊢
          show slN _ + _ ≤ _
          rw [slN_eq]
          show 1 + 0 + exN e1 + slO b1 + slO c1 + 0 + _ ≤ _
          omega
      · show slN _ + 3 * r.at' ≤ 3 * r2.at'
        rw [slN_eq]
        show 1 + 0 + exN e1 + slO b1 + 0 + 0 + _ ≤ _
        omega
    · simp only [psF]
      rw [take_at hr]
      have h4 : r.step.at' = r.at' + 1 := rfl
      have w1 := whole_n (ts := ts) r.step
      generalize Rd.whole ts r.step = e at *
      obtain ⟨e1, r1⟩ := e
      have hb := ih.b { r1 with loops := r1.loops + 1 }
      simp only at w1 ⊢
      generalize psF ts n 1 { r1 with loops := r1.loops + 1 } = b at *
      obtain ⟨b1, r2⟩ := b
      simp only at hb ⊢
      show slN _ + _ ≤ _
      rw [slN_eq]
      show 1 + 0 + exN e1 + slO b1 + 0 + 0 + _ ≤ _
      omega
end
end Go.Proofs.YtiafodeabdhcoaaGreatDoor

namespace Go.Proofs.YtiafodeabdhcoaaGreatDoor
open Go.RowKit
theorem ps_all : ∀ n, StmtsC n ∧ BlockC n ∧ ChoiceC n ∧ LoopC n := by
  intro n
  induction n using Nat.strongRecOn with
  | _ n ih =>
    cases n with
    | zero => exact ⟨fun w g ts F r _ hn => by omega, fun w g ts F r _ hn => by omega, fun w g ts F r _ _ hn => by omega, fun w g ts F r _ _ hn => by omega⟩
    | succ n =>
      have h := ih n (Nat.lt_succ_self n)
      exact ⟨stmts_step n (fun m hm => (ih m (by omega)).2), block_step n h.1, choice_step n h.2.1 h.2.2.1, loop_step n h.2.1⟩
end Go.Proofs.YtiafodeabdhcoaaGreatDoor

namespace Go.Proofs.YtiafodeabdhcoaaGreatDoor
open Go.RowKit
theorem atK_set {ps : List (Tx × Nat)} {a : Tx} {b : Nat} : ∀ {i : Nat}, (ps.map Prod.fst).findIdx? (KS.eqb a) = some i → ∀ c, atK KS (ps.set i (a, b)) c = if c = a then some b else atK KS ps c := by
  induction ps with
  | nil => intro i h; simp at h
  | cons p t ih =>
    intro i h c
    rw [List.map_cons, List.findIdx?_cons] at h
    cases hp : KS.eqb a p.1 with
    | true =>
      rw [hp] at h
      simp only [if_true, Option.some.injEq] at h
      subst h
      have hp' : a = p.1 := by simpa [KS] using hp
      rw [List.set_cons_zero]
      unfold atK
      rw [List.find?_cons, List.find?_cons]
      by_cases hc : c = a
      · subst hc; simp [KS]
      · have h1 : KS.eqb c a = false := by simp [KS, hc]
        rw [← hp', h1, if_neg hc]
    | false =>
      rw [hp] at h
      simp only [Bool.false_eq_true, if_false] at h
      obtain ⟨j, hj, rfl⟩ := Option.map_eq_some_iff.1 h
      rw [List.set_cons_succ]
      have := ih hj c
      unfold atK at this ⊢
      rw [List.find?_cons, List.find?_cons]
      cases hc : KS.eqb c p.1 with
      | true =>
        have h1 : c ≠ a := by
          intro e
          subst e
          rw [hp] at hc
          cases hc
        simp [h1]
      | false => exact this
theorem atK_push {ps : List (Tx × Nat)} {a : Tx} {b : Nat} (h : atK KS ps a = none) (c : Tx) : atK KS (ps ++ [(a, b)]) c = if c = a then some b else atK KS ps c := by
  unfold atK at h ⊢
  rw [List.find?_append]
  by_cases hc : c = a
  · subst hc
    rw [Option.map_eq_none_iff] at h
    rw [h]
    simp [KS]
  · have h1 : KS.eqb c a = false := by simp [KS, hc]
    rw [if_neg hc]
    simp [h1]
theorem es_set {es : Array MapEntry} {ps : List (Tx × Nat)} {i : Nat} {a : Tx} {b : Nat} (h : es.toList.map (fun e => (e.key, e.val)) = ps.map (fun p => (KS.enc p.1, pE p.2))) :
    (es.modify i fun e => { e with key := KS.enc a, val := pE b }).toList.map (fun e => (e.key, e.val)) = (ps.set i (a, b)).map (fun p => (KS.enc p.1, pE p.2)) := by
  rw [List.map_set, ← h]
  apply List.ext_getElem?
  intro j
  rw [List.getElem?_map, Array.getElem?_toList, Array.getElem?_modify, List.getElem?_set, List.getElem?_map, Array.getElem?_toList]
  by_cases hj : i = j
  · subst hj
    by_cases hl : i < es.size
    · simp [hl]
    · simp [hl]
  · simp [hj]
theorem stays_str (a : Tx) (w : World) : (Instr.keyThatStays (.string ⟨a.toArray⟩) (.string ⟨a.toArray⟩)).run Tryz.prog w = .ok (.string ⟨a.toArray⟩) w := by
  have hq : ((⟨a.toArray⟩ : ByteArray) == (⟨a.toArray⟩ : ByteArray)) = true := by rw [beq_toListBytes]; simp
  unfold Instr.keyThatStays
  simp [Instr.sameBits, hq]
theorem putS {w : World} {m : Nat} {ps : List (Tx × Nat)} (h : MapIs w m KS pE ps) (a : Tx) (b : Nat) : ∃ es clock ps', (Instr.mapUpdate 74 (.map (some m)) (.string ⟨a.toArray⟩) (.int .i64 (b : Nat))).run Tryz.prog w = .ok () (w.putObj m (.map es clock)) ∧ MapIs (w.putObj m (.map es clock)) m KS pE ps' ∧ ∀ c, atK KS ps' c = if c = a then some b else atK KS ps c := by
  cases hn : atK KS ps a with
  | none =>
    obtain ⟨es, clock, h3, h4⟩ := run_push (E := pE) key_str Tryz.underlying74 h a b hn
    exact ⟨es, clock, _, h3, h4, fun c => atK_push hn c⟩
  | some m0 =>
    obtain ⟨es, clock, hb, hes⟩ := h
    have hg : (getObj m).run Tryz.prog w = .ok (.map es clock) w := MapKept.run_getObj_map hb
    have hf := key_str.find a es.toList (ps.map Prod.fst) w (keys_of (K := KS) (E := pE) hes)
    cases hx : (ps.map Prod.fst).findIdx? (KS.eqb a) with
    | none =>
      have hi := findIdx_at (K := KS) (E := pE) a ps es.toList hes
      rw [hx, hn] at hi
      cases hi
    | some i =>
      rw [hx] at hf
      simp only [Option.map_some] at hf
      have hkey : ((es[i]?).map (·.key)).getD (.string ⟨a.toArray⟩) = .string ⟨a.toArray⟩ := by
        have h5 := keys_of (K := KS) (E := pE) hes
        have h6 := congrArg (fun l => l[i]?) h5
        simp only [List.getElem?_map, Array.getElem?_toList] at h6
        rw [h6]
        obtain ⟨h7, h8⟩ := List.findIdx?_eq_some_iff_getElem.1 hx
        rw [List.length_map] at h7
        rw [List.getElem?_eq_getElem h7]
        have h9 : a = (ps[i]).1 := by simpa [KS] using h8.1
        simp [KS, ← h9]
      have hstay := stays_str a w
      refine ⟨es.modify i fun e => { e with key := KS.enc a, val := pE b }, clock, ps.set i (a, b), ?_, ⟨_, _, World.putObj_heap_same (Array.getElem?_eq_some_iff.1 hb).1, es_set hes⟩, fun c => by rw [atK_set hx]⟩
      have hs := fun o => MapKept.run_setObj_map (P := Tryz.prog) o hb
      have hck := key_str.check false a w
      have hu := Tryz.underlying74
      simp only [KS] at hf hck
      simp [Instr.mapUpdate, run_underlying hu, hg, hck, hf, hs, hkey, hstay, World.putObj, KS, pE]
def Rd.sizeT (ts : List Tk) (r : Rd) : Nat × Rd := if (r.see ts).kind = 3 ∧ (r.see ts).val ≠ 0 then ((r.see ts).val, r.step) else (0, r.refuse ts)
set_option maxRecDepth 100000 in
set_option maxHeartbeats 1000000 in
theorem size_any (w : World) (g : Nat) (ts : List Tk) (F : Fx) (r : Rd) (hvl : (r.see ts).val ≤ 4294967295) (h : RdA w g ts F r) : Calls Tryz.prog 78 #[.pointer (some ⟨g, 0, none⟩)] w fun e w' => e = .returned (.int .i64 ((r.sizeT ts).1 : Nat)) ∧ RdA w' g ts F (r.sizeT ts).2 ∧ Kp g w w' := by
  have HS := hide (see_any w g ts F r h)
  have hln := h.len
  have hat := h.hat
  have HM : Hid (2 ≤ (r.see ts).kind → r.at' + 1 < ts.length) := hide (fun e => (h.more (.inl e)).1)
  have HV : Hid (r.sizeT ts = if (r.see ts).kind = 3 ∧ (r.see ts).val ≠ 0 then ((r.see ts).val, r.step) else (0, r.refuse ts)) := hide rfl
  have HRf := hide (fun W (hW : RdA W g ts F r) => refuse_any W g ts F r hW)
  have HR := hide h
  clear h
  generalize r.sizeT ts = RT at *
  obtain ⟨t, ht⟩ : ∃ t, r.see ts = t := ⟨_, rfl⟩
  rw [ht] at HS HM HV hvl
  obtain ⟨tk, tx, tv, tl⟩ := t
  simp only [tkL] at HS HM HV hvl
  clear ht
  go_enter Tryz.func78, Tryz.ntmps78
  go_wp2_with fail
  refine HS.out.mono ?_
  rintro e w1 ⟨rfl, hb1⟩
  have HA1 := hide (HR.out.keep hb1)
  have HK1 := hide (Kp.of (g := g) hb1)
  clear hb1 HS
  go_upto_region 2 with fail
  have HT2 : Hid (Blk (w1.alloc (.cells #[.int .i64 (tk : Nat), .string ⟨tx.toArray⟩, .int .u32 (tv : Nat), .int .i64 (tl : Nat)] 115)) w1.heap.size 115 (tkL ⟨tk, tx, tv, tl⟩)) := hide ⟨heap_alloc_new _ _⟩
  have hb2 := bel1 w1 (.cells #[.int .i64 (tk : Nat), .string ⟨tx.toArray⟩, .int .u32 (tv : Nat), .int .i64 (tl : Nat)] 115)
  have HK2 := hide (HK1.out.trans (Kp.of hb2))
  have HA2 := hide (HA1.out.keep hb2)
  have hgN : g < w1.heap.size := HA1.out.b.lt
  clear hb2 HK1 HA1
  generalize w1.alloc (.cells #[.int .i64 (tk : Nat), .string ⟨tx.toArray⟩, .int .u32 (tv : Nat), .int .i64 (tl : Nat)] 115) = W2 at *
  generalize w1.heap.size = N1 at *
  have t0 := HT2.out.get (j := 0) rfl
  have t2 := HT2.out.get (j := 2) rfl
  simp only at t0 t2
  by_cases hk : tk = 3
  · have hkb : ((tk : Int) == 3) = true := by simp; omega
    have hkc : ((tk : Int) != 3) = false := by simp; omega
    by_cases hz : tv = 0
    · subst hz
      have HV2 := hide (HV.out.trans (if_neg (by simp)))
      have HRf2 := hide (HRf.out W2 HA2.out)
      clear HV hk
      go_wp2_with fail
      refine HRf2.out.mono ?_
      rintro e w3 ⟨rfl, hA3, hk3⟩
      have HA3 := hide hA3
      have HK3 := hide (HK2.out.trans hk3)
      clear hA3 hk3 HRf2 HA2 HK2 HT2 t0 t2
      go_wp2
      go_ret
      exact ⟨by rw [HV2.out]; rfl, by rw [HV2.out]; exact HA3.out, HK3.out⟩
    · have HV2 := hide (HV.out.trans (if_pos ⟨hk, hz⟩))
      have hzb : ((tv : Int) == 0) = false := by simpa using hz
      have hm := HM.out (by omega)
      have c1 := HA2.out.b.get (j := 1) rfl
      have f1 := HA2.out.b.frz 1
      have HA3 : Hid (RdA (W2.setCell ⟨g, 1, none⟩ (.int .i64 ((r.at' : Int) + 1))) g ts F r.step) := hide (HA2.out.to (Kp.set (Kp.refl g W2) _) (HA2.out.b.set 1 _) rfl hm)
      have HK3 := hide (Kp.set (j := 1) HK2.out (.int .i64 ((r.at' : Int) + 1)))
      have HT3 := hide (HT2.out.keepK (Kp.set (j := 1) (Kp.refl g W2) (.int .i64 ((r.at' : Int) + 1))) (by omega))
      clear HV hk hz
      go_upto_region 6 with fail
      clear c1 f1 t0 t2
      generalize W2.setCell ⟨g, 1, none⟩ (.int .i64 ((r.at' : Int) + 1)) = W3 at *
      have t2 := HT3.out.get (j := 2) rfl
      simp only at t2
      have hwt : wrap64 (tv : Int) = (tv : Int) := by unfold wrap64; omega
      go_wp2
      go_ret
      exact ⟨by rw [HV2.out]; rfl, by rw [HV2.out]; exact HA3.out, HK3.out⟩
  · have hkb : ((tk : Int) == 3) = false := by simp; omega
    have hkc : ((tk : Int) != 3) = true := by simp; omega
    have HV2 := hide (HV.out.trans (if_neg (by simp [hk])))
    have HRf2 := hide (HRf.out W2 HA2.out)
    clear HV hk
    go_wp2_with fail
    refine HRf2.out.mono ?_
    rintro e w3 ⟨rfl, hA3, hk3⟩
    have HA3 := hide hA3
    have HK3 := hide (HK2.out.trans hk3)
    clear hA3 hk3 HRf2 HA2 HK2 HT2 t0 t2
    go_wp2
    go_ret
    exact ⟨by rw [HV2.out]; rfl, by rw [HV2.out]; exact HA3.out, HK3.out⟩
end Go.Proofs.YtiafodeabdhcoaaGreatDoor

namespace Go.Proofs.YtiafodeabdhcoaaGreatDoor
open Go.RowKit
/-- the variables' row is the reader's own -/
structure Dc (w : World) (g : Nat) (F : Fx) (r : Rd) : Prop where
  own : w.ownsRow (g + 1) 63 4 (.slice F.av r.vars.length F.cv) r.vars.length (r.vars.flatMap vrL)
  mg : F.mp < g
  ag : ∀ a, F.ao = some a → a.block < g ∧ a.block ≠ F.mp
theorem vrL_len (v : Vr) : (vrL v).length = 4 := rfl
theorem vrL_one (v : Vr) : ∀ u ∈ vrL v, u.oneCell' = true := by
  intro u hu
  simp [vrL] at hu
  rcases hu with rfl | rfl | rfl | rfl <;> rfl
theorem info_vr4 : ∃ i, Tryz.prog.info? 63 = some i ∧ i.zero = some (.agg (vrL vr0).toArray) ∧ i.size = 4 ∧ i.bytes = 40 := info_parts (by kernel_rfl)
theorem find_snoc (vars : List Vr) (v : Vr) (s : Tx) : (vars ++ [v]).reverse.find? (fun x => x.name == s) = if s = v.name then some v else vars.reverse.find? (fun x => x.name == s) := by
  rw [List.reverse_append, List.reverse_singleton, List.singleton_append, List.find?_cons]
  by_cases h : s = v.name
  · subst h; simp
  · have : (v.name == s) = false := by simpa using fun e => h e.symm
    rw [this, if_neg h]
/-- a reader behind a declaration, out of its parts -/
theorem RdA.decl {w w' : World} {g : Nat} {ts : List Tk} {F : Fx} {r r3 : Rd} {v : Vr} {av : Option Addr} {cv : Nat} {ps : List (Tx × Nat)} (h : RdA w g ts F r) (hd : Dc w g F r)
    (hk : ∀ k, k < g → k ≠ F.mp → w'.heap[k]? = w.heap[k]?) (hv : r3.vars = r.vars) (ha : r3.at' = r.at')
    (hb : Blk w' g 77 (rdL { F with av := av, cv := cv, ps := ps } ts.length { r3 with vars := r3.vars ++ [v] }))
    (ho : w'.ownsRow (g + 1) 63 4 (.slice av (r.vars.length + 1) cv) (r.vars.length + 1) ((r.vars ++ [v]).flatMap vrL))
    (hm : MapIs w' F.mp KS pE ps) (hp : ∀ c, atK KS ps c = if c = v.name then some r.vars.length else atK KS F.ps c) :
    RdA w' g ts { F with av := av, cv := cv, ps := ps } { r3 with vars := r3.vars ++ [v] } ∧ Dc w' g { F with av := av, cv := cv, ps := ps } { r3 with vars := r3.vars ++ [v] } := by
  have hl : (r.vars ++ [v]).length = r.vars.length + 1 := by simp
  rw [← hl] at ho
  obtain ⟨_, ao, c, he, hrw, hba⟩ := RwK.of vrL_len (by decide) ho
  cases he
  refine ⟨⟨hb, fun i hi => ?_, h.ra, ?_, fun a e => ?_, hm, h.ma, fun s => ?_, h.ok, ?_, h.len⟩, ⟨?_, hd.mg, hd.ag⟩⟩
  · obtain ⟨a, h1, h2⟩ := h.ro i hi
    refine ⟨a, h1, fun j u hu => ?_⟩
    rw [← h2 j u hu]
    refine World.cell?_of_block ?_
    rw [add_blk, add_blk]
    exact hk _ (hd.ag a h1).1 (hd.ag a h1).2
  · show RwK w' av 4 vrL (r3.vars ++ [v])
    rw [hv]; exact hrw
  · have := (hba a e).1; omega
  · show match atK KS ps s with
      | none => (r3.vars ++ [v]).reverse.find? (fun x => x.name == s) = none
      | some n => ∃ h : n < (r3.vars ++ [v]).length, (r3.vars ++ [v]).reverse.find? (fun x => x.name == s) = some (r3.vars ++ [v])[n]
    rw [hp s, hv, find_snoc]
    by_cases hs : s = v.name
    · rw [if_pos hs, if_pos hs]
      exact ⟨by simp, by simp⟩
    · rw [if_neg hs, if_neg hs]
      have hmv := h.mv s
      unfold Rd.find at hmv
      cases hat : atK KS F.ps s with
      | none => rw [hat] at hmv; exact hmv
      | some n =>
        rw [hat] at hmv
        obtain ⟨h1, h2⟩ := hmv
        exact ⟨by simp; omega, by rw [h2, List.getElem_append_left h1]⟩
  · show r3.at' < ts.length
    rw [ha]; exact h.hat
  · show w'.ownsRow _ _ _ (.slice av (r3.vars ++ [v]).length cv) (r3.vars ++ [v]).length ((r3.vars ++ [v]).flatMap vrL)
    rw [hv]; exact ho
end Go.Proofs.YtiafodeabdhcoaaGreatDoor
