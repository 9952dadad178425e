import Derived.Test.YtiafodeabdhcoaaGreatDoorM17
namespace Go.Proofs.YtiafodeabdhcoaaGreatDoor
open Go.RowKit
section
variable {d F : Nat}
theorem wh_fz (cond body : Mc → Nat × Mc) : ∀ (k : Nat) (m : Mc), m.over = true → Fz m (whF cond body k m)
  | 0, _, h => Fz.refl h
  | k + 1, m, h => by
    unfold whF
    rw [spend_over h, if_pos rfl]
    exact Fz.refl h
theorem wh_gw {cond body : Mc → Nat × Mc} (hc : Gd d F cond) (hb : Gd d F body) : ∀ (k : Nat) (m : Mc), Gw m (whF cond body k m)
  | 0, m => Gw.refl m
  | k + 1, m => by
    have h1 := spend_gw m
    have h2 := h1.trans (hc.g m.spend.2)
    have h3 := h2.trans (hb.g (cond m.spend.2).2)
    unfold whF
    split
    · exact h1
    · split
      · exact h2
      · split
        · exact h3
        · exact h3.trans (wh_gw hc hb k _)
theorem wh_s (hd : 0 < d) {cond body : Mc → Nat × Mc} (hc : Gd d F cond) (hb : Gd d F body) (fc : Fle cond) (fb : Fle body) : ∀ (k : Nat) (m n : Mc), SA d F m n → m.fuel + 1 ≤ k → SA d F (whF cond body k m) (whF cond body (k + d) n) ∨ SB F (whF cond body k m) (whF cond body (k + d) n)
  | 0, m, _, _, hk => by omega
  | k + 1, m, n, h, hk => by
    rw [show k + 1 + d = (k + d) + 1 by omega]
    have hn2 := wh_gw hc hb (k + d + 1) n
    have hsp := (gd_spend (F := F) hd).s m n h
    have hfm := (spend_fuel m).2
    rcases hsp with ⟨h1, e1⟩ | h1
    · conv => lhs; unfold whF
      conv => rhs; unfold whF
      rw [e1]
      by_cases hs : m.spend.1 = false
      · simp only [hs, if_true]
        exact .inl h1
      · have hs' : m.spend.1 = true := by simpa using hs
        have hf1 := hfm hs'
        simp only [if_neg hs]
        generalize m.spend.2 = m1 at *
        generalize n.spend.2 = n1 at *
        have hfc := fc m1
        have hgn := hb.g (cond n1).2
        rcases hc.s m1 n1 h1 with ⟨h2, e2⟩ | h2
        · rw [e2]
          by_cases hz : (cond m1).1 = 0
          · simp only [hz, if_true]
            exact .inl h2
          · simp only [if_neg hz]
            generalize (cond m1).2 = m2 at *
            generalize (cond n1).2 = n2 at *
            have hfb := fb m2
            rcases hb.s m2 n2 h2 with ⟨h3, e3⟩ | h3
            · rw [e3]
              by_cases hl : (body m2).1 = 1
              · simp only [hl, if_true]
                exact .inl h3
              · simp only [if_neg hl]
                exact wh_s hd hc hb fc fb k _ _ h3 (by omega)
            · refine .inr (h3.step ?_ ?_)
              · split
                · exact Fz.refl h3.v
                · exact wh_fz cond body k _ h3.v
              · split
                · exact Gw.refl _
                · exact wh_gw hc hb _ _
        · refine .inr (h2.step ?_ ?_)
          · split
            · exact Fz.refl h2.v
            · have h3 := hb.z _ h2.v
              split
              · exact h3
              · exact h3.trans (wh_fz cond body k _ h3.v)
          · split
            · exact Gw.refl _
            · split
              · exact hgn
              · exact hgn.trans (wh_gw hc hb _ _)
    · have hm : m.spend.1 = false := by
        cases ho : m.over with
        | true => rw [spend_over ho]
        | false =>
          by_cases hf : m.fuel = 0
          · rw [spend_done ho hf]
          · have hv := h1.v
            rw [spend_go ho hf] at hv
            have : m.over = true := hv
            rw [ho] at this; cases this
      refine .inr ?_
      have e : whF cond body (k + 1) m = m.spend.2 := by conv => lhs; unfold whF
                                                         rw [if_pos hm]
      rw [e]
      conv => rhs; unfold whF
      split
      · exact h1
      · have g2 := hc.g n.spend.2
        have g3 := g2.trans (hb.g (cond n.spend.2).2)
        split
        · exact h1.step (Fz.refl h1.v) g2
        · split
          · exact h1.step (Fz.refl h1.v) g3
          · exact h1.step (Fz.refl h1.v) (g3.trans (wh_gw hc hb _ _))
theorem gd_wh (hd : 0 < d) {cond body : Mc → Nat × Mc} (hc : Gd d F cond) (hb : Gd d F body) (fc : Fle cond) (fb : Fle body) : Gd d F (fun m => ((0 : Nat), whF cond body (m.fuel + 1) m)) where
  z m hm := wh_fz cond body _ m hm
  g m := wh_gw hc hb _ m
  s m n h := by
    have h1 := wh_s hd hc hb fc fb (m.fuel + 1) m n h (Nat.le_refl _)
    have e : n.fuel + 1 = m.fuel + 1 + d := by rw [h.e]; show m.fuel + d + 1 = _; omega
    show (SA d F (whF cond body (m.fuel + 1) m) (whF cond body (n.fuel + 1) n) ∧ _) ∨ SB F (whF cond body (m.fuel + 1) m) (whF cond body (n.fuel + 1) n)
    rw [e]
    rcases h1 with h1 | h1
    · exact .inl ⟨h1, rfl⟩
    · exact .inr h1
theorem gd_stm (hd : 0 < d) (word : Tx) (v : Vr) (i x : Option Ex) {fb fr : Mc → Nat × Mc} (hb : Gd d F fb) (hr : Gd d F fr) (fl : Fle fb) : Gd d F (Mc.stm word v i x fb fr) := by
  have hG : Gd d F (fun m => if word = [61] then ((0 : Nat), m.assign v i x)
      else if word = [105, 102] then (fun (a : Nat) m => if a ≠ 0 then fb m else fr m) (mxO x m).1 (mxO x m).2
      else if word = [119, 104, 105, 108, 101] then (0, whF (mxO x) fb (m.fuel + 1) m)
      else if word = [101, 109, 105, 116] then (fun a m => ((0 : Nat), m.tell 14 a)) (mxO x m).1 (mxO x m).2
      else if word = [115, 116, 111, 112] then (fun a m => ((0 : Nat), m.stop a)) (mxO x m).1 (mxO x m).2
      else if word = [121, 105, 101, 108, 100] then (0, m.tell 0 0)
      else if word = [98, 114, 101, 97, 107] then (1, m)
      else if word = [99, 111, 110, 116, 105, 110, 117, 101] then (2, m)
      else (0, m)) :=
    Gd.ite (gd_asn hd v i x) (Gd.ite (Gd.bind (k := fun (a : Nat) m => if a ≠ 0 then fb m else fr m) (gd_mxO hd x) (fun a => Gd.ite hb hr)) (Gd.ite (gd_wh hd (gd_mxO hd x) hb (mxO_fle x) fl) (Gd.ite (Gd.bind (k := fun a m => ((0 : Nat), m.tell 14 a)) (gd_mxO hd x) (fun a => gd_tell 0 14 a)) (Gd.ite (Gd.bind (k := fun a m => ((0 : Nat), m.stop a)) (gd_mxO hd x) (fun a => gd_stop 0 a)) (Gd.ite (gd_tell 0 0 0) (Gd.ite (Gd.ret 1) (Gd.ite (Gd.ret 2) (Gd.ret 0))))))))
  exact Gd.ite (f := fb) hb (gd_then hd 0 hG.g hG.s)
theorem gd_run (hd : 0 < d) : ∀ (l : List Sl), (∀ s ∈ l, Gd d F (ms1 s)) → Gd d F (runL l)
  | [], _ => Gd.ret 0
  | s :: l, h => Gd.bind (k := fun (a : Nat) m => if a ≠ 0 then (a, m) else runL l m) (h s List.mem_cons_self) (fun a => Gd.ite (Gd.ret a) (gd_run hd l (fun s hs => h s (List.mem_cons_of_mem _ hs))))
theorem gd_ms (hd : 0 < d) : ∀ (b : Sl), ∀ s ∈ slL b, Gd d F (ms1 s)
  | ⟨word, v, idx, val, body, oth, rest, next⟩, s, hs => by
    rw [slL_eq] at hs
    rcases List.mem_cons.1 hs with rfl | hs
    · refine gd_stm hd _ _ _ _ ?_ ?_ (ma_fle _)
      · match body with
        | none => exact Gd.ret 0
        | some t =>
          have e : maO (some t) = runL (slL t) := funext (ma_run t)
          show Gd d F (maO (some t))
          rw [e]; exact gd_run hd _ (gd_ms hd t)
      · match rest with
        | none => exact Gd.ret 0
        | some t =>
          have e : maO (some t) = runL (slL t) := funext (ma_run t)
          show Gd d F (maO (some t))
          rw [e]; exact gd_run hd _ (gd_ms hd t)
    · match next, hs with
      | none, hs => simp [slLO] at hs
      | some t, hs => exact gd_ms hd t s hs
theorem gd_ma (hd : 0 < d) (o : Option Sl) : Gd d F (maO o) := by
  cases o with
  | none => exact Gd.ret 0
  | some b =>
    have e : maO (some b) = runL (slL b) := funext (ma_run b)
    rw [e]; exact gd_run hd _ (gd_ms hd b)
end
/-- more fuel goes on where less rests -/
theorem mean_more (o : Option Sl) (answers : List Nat) (less more : Nat) (h : less < more) :
    (meanT o answers less).used ≤ less ∧ (((meanT o answers more).outs = (meanT o answers less).outs ∧ (meanT o answers more).state = (meanT o answers less).state ∧ (meanT o answers more).code = (meanT o answers less).code ∧ (meanT o answers more).taken = (meanT o answers less).taken ∧ (meanT o answers more).used = (meanT o answers less).used ∧ (meanT o answers less).state ≠ 1) ∨ ((meanT o answers less).state = 1 ∧ (meanT o answers less).code = 0 ∧ (meanT o answers less).used = less ∧ (∃ t, (meanT o answers more).outs = (meanT o answers less).outs ++ t) ∧ (meanT o answers less).taken ≤ (meanT o answers more).taken)) := by
  obtain ⟨d, rfl⟩ : ∃ d, more = less + d := ⟨more - less, by omega⟩
  have hd : 0 < d := by omega
  have hG : Gd d less (fun m => ((0 : Nat), (maO o m).2.stop 0)) := Gd.bind (k := fun _ m => ((0 : Nat), m.stop 0)) (gd_ma hd o) (fun _ => gd_stop 0 0)
  have h0 : SA d less (mc0 answers less) (mc0 answers (less + d)) := ⟨rfl, fun e => (by cases e), (by show 0 + less = less; omega)⟩
  have hov : (meanT o answers less).over = true := by unfold meanT Mc.stop; exact (endM_words _ _ _).2.2.2.2.2.2.2
  rcases hG.s _ _ h0 with ⟨⟨e, hs, hu⟩, _⟩ | hb
  · have e' : meanT o answers (less + d) = { meanT o answers less with fuel := (meanT o answers less).fuel + d } := e
    have hu' : (meanT o answers less).used + (meanT o answers less).fuel = less := hu
    refine ⟨by omega, .inl ?_⟩
    rw [e']
    exact ⟨rfl, rfl, rfl, rfl, rfl, hs hov⟩
  · have hu' : (meanT o answers less).used = less := hb.u
    exact ⟨by omega, .inr ⟨hb.s, hb.c, hb.u, hb.o, hb.t⟩⟩
end Go.Proofs.YtiafodeabdhcoaaGreatDoor

namespace Go.Proofs.YtiafodeabdhcoaaGreatDoor
open Go.RowKit
/-- answers are taken, or left -/
def Tk2 {α : Type} (f : Mc → α × Mc) : Prop := ∀ m : Mc, (f m).2.taken + (f m).2.answers.length = m.taken + m.answers.length
section
variable {α β : Type}
theorem Tk2.bind {f : Mc → α × Mc} {k : α → Mc → β × Mc} (hf : Tk2 f) (hk : ∀ a, Tk2 (k a)) : Tk2 (fun m => k (f m).1 (f m).2) := fun m => (hk (f m).1 (f m).2).trans (hf m)
theorem Tk2.ret (a : α) : Tk2 (fun m => (a, m)) := fun _ => rfl
theorem Tk2.get (f : Mc → α) : Tk2 (fun m => (f m, m)) := fun _ => rfl
theorem Tk2.ite {p : Prop} [Decidable p] {f g : Mc → α × Mc} (hf : Tk2 f) (hg : Tk2 g) : Tk2 (fun m => if p then f m else g m) := by
  by_cases h : p
  · simpa [h] using hf
  · simpa [h] using hg
theorem tk_end (a : α) (st cd : Nat) : Tk2 (fun m => (a, m.endM st cd)) := fun m => by
  obtain ⟨_, _, _, e4, _, e6, _⟩ := endM_words m st cd
  show (m.endM st cd).taken + (m.endM st cd).answers.length = _
  rw [e4, e6]
theorem tk_tell (a : α) (c v : Nat) : Tk2 (fun m => (a, m.tell c v)) := fun m => by
  show (m.tell c v).taken + (m.tell c v).answers.length = _
  unfold Mc.tell
  split <;> rfl
theorem tk_put (a : α) (k v : Nat) : Tk2 (fun m => (a, m.put k v)) := fun _ => rfl
theorem tk_stop (a : α) (c : Nat) : Tk2 (fun m => (a, m.stop c)) := Tk2.bind (f := fun m => ((), m.tell 1 c)) (k := fun _ m => (a, m.endM 3 c)) (tk_tell () 1 c) (fun _ => tk_end a 3 c)
theorem tk_spend : Tk2 Mc.spend := fun m => by
  cases ho : m.over with
  | true => rw [spend_over ho]
  | false =>
    by_cases hf : m.fuel = 0
    · rw [spend_done ho hf]
    · rw [spend_go ho hf]
theorem tk_next : Tk2 Mc.next := fun m => by
  unfold Mc.next
  cases ha : m.answers with
  | nil => simp [ha]
  | cons a r =>
    show m.taken + 1 + r.length = m.taken + (r.length + 1)
    omega
theorem tk_then {f : Mc → α × Mc} (a : α) (hf : Tk2 f) : Tk2 (fun m => if m.spend.1 = false then (a, m.spend.2) else f m.spend.2) := fun m => by
  have h := tk_spend m
  show (if m.spend.1 = false then (a, m.spend.2) else f m.spend.2).2.taken + (if m.spend.1 = false then (a, m.spend.2) else f m.spend.2).2.answers.length = _
  split
  · exact h
  · exact (hf _).trans h
theorem tk_ask : Tk2 Mc.ask := tk_then (f := fun m => (m.next.1, m.next.2.tell 24 m.next.1)) 0 (Tk2.bind (k := fun a m => (a, m.tell 24 a)) tk_next (fun a => tk_tell a 24 a))
theorem tk_index {f : Mc → Nat × Mc} (hf : Tk2 f) (v : Vr) : Tk2 (Mc.index f v) :=
  Tk2.bind (k := fun x m => if v.size ≤ x then (none, m.stop 4294967295) else (some x, m)) hf (fun x => Tk2.ite (tk_stop none _) (Tk2.ret (some x)))
theorem tk_elem {f : Mc → Nat × Mc} (hf : Tk2 f) (v : Vr) : Tk2 (Mc.elem f v) := fun m => by
  have h := tk_index hf v m
  unfold Mc.elem
  generalize Mc.index f v m = q at *
  obtain ⟨o, m1⟩ := q
  cases o <;> exact h
theorem tk_opr2 {f : Mc → Nat × Mc} (hf : Tk2 f) (op : Tx) (a : Nat) : Tk2 (Mc.opr2 f op a) :=
  Tk2.bind (k := fun x m => if x = 0 ∧ divT op = true then (0, m.endM 4 73) else (apV op a x, m)) hf (fun _ => Tk2.ite (tk_end 0 4 73) (Tk2.ret _))
theorem tk_opr {fl fr : Mc → Nat × Mc} (hl : Tk2 fl) (hr : Tk2 fr) (op : Tx) : Tk2 (Mc.opr fl fr op) :=
  Tk2.bind (k := fun x m => if op = [38, 38] ∧ x = 0 then (0, m) else if op = [124, 124] ∧ x ≠ 0 then (1, m) else Mc.opr2 fr op x m) hl (fun x => Tk2.ite (Tk2.ret 0) (Tk2.ite (Tk2.ret 1) (tk_opr2 hr op x)))
theorem tk_mx : ∀ (e : Ex), Tk2 (mxF e)
  | ⟨k, v, vr, op, l, r, dp⟩ => by
    have hl : Tk2 (mxO l) := by
      match l with
      | none => exact Tk2.ret 0
      | some e => exact tk_mx e
    have hr : Tk2 (mxO r) := by
      match r with
      | none => exact Tk2.ret 0
      | some e => exact tk_mx e
    intro m
    rw [mxF_eq]
    split
    · rfl
    · split
      · exact tk_ask m
      · split
        · rfl
        · split
          · exact tk_elem hl vr m
          · split
            · exact hl m
            · exact tk_opr hl hr op m
theorem tk_mxO (o : Option Ex) : Tk2 (mxO o) := by
  cases o with
  | none => exact Tk2.ret 0
  | some e => exact tk_mx e
theorem tk_asn (v : Vr) (i x : Option Ex) (m : Mc) : (m.assign v i x).taken + (m.assign v i x).answers.length = m.taken + m.answers.length := by
  unfold Mc.assign
  cases i with
  | none => exact tk_mxO x m
  | some i =>
    have h := tk_index (tk_mx i) v m
    simp only
    generalize Mc.index (mxF i) v m = q at *
    obtain ⟨o, m1⟩ := q
    cases o with
    | none => exact h
    | some k => exact (tk_mxO x m1).trans h
theorem tk_wh {cond body : Mc → Nat × Mc} (hc : Tk2 cond) (hb : Tk2 body) : ∀ (n : Nat) (m : Mc), (whF cond body n m).taken + (whF cond body n m).answers.length = m.taken + m.answers.length
  | 0, m => rfl
  | n + 1, m => by
    have h1 := tk_spend m
    have h2 := (hc m.spend.2).trans h1
    have h3 := (hb (cond m.spend.2).2).trans h2
    unfold whF
    split
    · exact h1
    · split
      · exact h2
      · split
        · exact h3
        · exact (tk_wh hc hb n _).trans h3
theorem tk_stm (word : Tx) (v : Vr) (i x : Option Ex) {fb fr : Mc → Nat × Mc} (hb : Tk2 fb) (hr : Tk2 fr) : Tk2 (Mc.stm word v i x fb fr) := fun m => by
  have h1 := tk_spend m
  have hx := (tk_mxO x m.spend.2).trans h1
  unfold Mc.stm
  split
  · exact hb m
  · split
    · exact h1
    · split
      · exact (tk_asn v i x _).trans h1
      · split
        · split
          · exact (hb _).trans hx
          · exact (hr _).trans hx
        · split
          · exact (tk_wh (tk_mxO x) hb _ _).trans h1
          · split
            · exact (tk_tell 0 14 _ (mxO x m.spend.2).2).trans hx
            · split
              · exact (tk_stop 0 _ (mxO x m.spend.2).2).trans hx
              · split
                · exact (tk_tell 0 0 0 m.spend.2).trans h1
                · split
                  · exact h1
                  · split <;> exact h1
theorem tk_run : ∀ (l : List Sl), (∀ s ∈ l, Tk2 (ms1 s)) → Tk2 (runL l)
  | [], _ => Tk2.ret 0
  | s :: l, h => Tk2.bind (k := fun (a : Nat) m => if a ≠ 0 then (a, m) else runL l m) (h s List.mem_cons_self) (fun a => Tk2.ite (Tk2.ret a) (tk_run l (fun s hs => h s (List.mem_cons_of_mem _ hs))))
theorem tk_ms : ∀ (b : Sl), ∀ s ∈ slL b, Tk2 (ms1 s)
  | ⟨word, v, idx, val, body, oth, rest, next⟩, s, hs => by
    rw [slL_eq] at hs
    rcases List.mem_cons.1 hs with rfl | hs
    · refine tk_stm _ _ _ _ ?_ ?_
      · match body with
        | none => exact Tk2.ret 0
        | some t =>
          have e : maO (some t) = runL (slL t) := funext (ma_run t)
          show Tk2 (maO (some t))
          rw [e]; exact tk_run _ (tk_ms t)
      · match rest with
        | none => exact Tk2.ret 0
        | some t =>
          have e : maO (some t) = runL (slL t) := funext (ma_run t)
          show Tk2 (maO (some t))
          rw [e]; exact tk_run _ (tk_ms t)
    · match next, hs with
      | none, hs => simp [slLO] at hs
      | some t, hs => exact tk_ms t s hs
theorem tk_ma (o : Option Sl) : Tk2 (maO o) := by
  cases o with
  | none => exact Tk2.ret 0
  | some b =>
    have e : maO (some b) = runL (slL b) := funext (ma_run b)
    rw [e]; exact tk_run _ (tk_ms b)
end
theorem mean_taken (o : Option Sl) (answers : List Nat) (fuel : Nat) : (meanT o answers fuel).taken ≤ answers.length := by
  have h1 := tk_ma o (mc0 answers fuel)
  have h2 := (tk_stop () 0 (maO o (mc0 answers fuel)).2).trans h1
  have e : (mc0 answers fuel).taken + (mc0 answers fuel).answers.length = 0 + answers.length := rfl
  rw [e] at h2
  have h3 : (meanT o answers fuel).taken + (meanT o answers fuel).answers.length = 0 + answers.length := h2
  omega
end Go.Proofs.YtiafodeabdhcoaaGreatDoor

namespace Go.Proofs.YtiafodeabdhcoaaGreatDoor
open Go.RowKit
section
variable {w w' : World} {g : Nat} {X : Nat → Prop}
theorem PtE.km {o : Option Ex} {v : Value} (h : PtE w o X v) (hk : Km g w w') (hX : ∀ j, X j → j < g) : PtE w' o X v := h.move fun j hj _ => ⟨hj, hk.b.block j (hX j hj)⟩
theorem LsO.km {o : Option Sl} {v : Value} (h : LsO w o X v) (hk : Km g w w') (hX : ∀ j, X j → j < g) : LsO w' o X v := h.move (fun j hj _ => ⟨hj, hk.b.block j (hX j hj)⟩) fun _ h => h
theorem StA.km {s : Sl} {cs : List Value} (h : StA w s X cs) (hk : Km g w w') (hX : ∀ j, X j → j < g) : StA w' s X cs := h.move (fun j hj _ => ⟨hj, hk.b.block j (hX j hj)⟩) fun _ h => h
end
/-- a statement's value laid in a block of its own, beside a machine -/
structure By (w0 w1 : World) (g q : Nat) (s : Sl) (X : Nat → Prop) (pi pv pb pr : Value) : Prop where
  b : Blk w1 q 92 (stL s.word s.var pi pv pb s.oth pr)
  ng : q ≠ g
  i : PtE w1 s.idx X pi
  v : PtE w1 s.val X pv
  d : LsO w1 s.body X pb
  r : LsO w1 s.rest X pr
  x : ∀ j, X j → j < g
  k : Km g w0 w1
theorem By.of {w0 : World} {g : Nat} {s : Sl} {X : Nat → Prop} {pi pv pb pr : Value} (hg : g < w0.heap.size) (h1 : PtE w0 s.idx X pi) (h2 : PtE w0 s.val X pv) (h3 : LsO w0 s.body X pb) (h4 : LsO w0 s.rest X pr) (hX : ∀ j, X j → j < g) : By w0 (w0.alloc (.cells (stL s.word s.var pi pv pb s.oth pr).toArray 92)) g w0.heap.size s X pi pv pb pr := by
  have hk : Km g w0 (w0.alloc (.cells (stL s.word s.var pi pv pb s.oth pr).toArray 92)) := Km.bel ((Below.refl _ _).alloc (Nat.le_refl _) _) (by omega)
  exact ⟨⟨heap_alloc_last _ _⟩, by omega, h1.km hk hX, h2.km hk hX, h3.km hk hX, h4.km hk hX, hX, hk⟩
theorem By.sta {w0 w1 : World} {g q : Nat} {s : Sl} {X : Nat → Prop} {pi pv pb pr : Value} (h : By w0 w1 g q s X pi pv pb pr) : StA w1 s X (stL s.word s.var pi pv pb s.oth pr) := ⟨pi, pv, pb, pr, rfl, h.i, h.v, h.d, h.r⟩
theorem McPost.pre {g : Nat} {v : Value} {m' : Mc} {w0 w w' : World} {e : Ending} (h : McPost g v m' w e w') (hk : Km g w0 w) : McPost g v m' w0 e w' := ⟨h.1, h.2.1, hk.trans h.2.2⟩
theorem MAt.put {w : World} {g : Nat} {m : Mc} (h : MAt w g m) (hw : m.words.length = 96) (k v : Nat) (hk : k < 96) : MAt (w.setCell ⟨g, 5 + k, none⟩ (.int .u32 (v : Nat))) g (m.put k v) := h.store _ _ (fun ov an => mc_put ov an m hw k v hk) rfl rfl
set_option maxHeartbeats 8000000 in
set_option maxRecDepth 100000 in
theorem masn_none (w0 : World) (g : Nat) (m : Mc) (d : Nat) (X : Nat → Prop) (s : Sl) (cs : List Value) (hs : StA w0 s X cs) (hX : ∀ j, X j → j < g) (h : MAt w0 g m) (hk : Mok d m) (x : Ex) (hix : s.idx = none) (hvl : s.val = some x) (hx : MvE x) (hxk : exK x) (ha : 384 ≤ s.var.at' ∧ s.var.at' < 480) : Calls Tryz.prog 60 #[.pointer (some ⟨g, 0, none⟩), .agg cs.toArray] w0 (McPost g (.tuple #[]) (m.assign s.var s.idx s.val) w0) := by
  obtain ⟨pi, pv, pb, pr, rfl, h1, h2, h3, h4⟩ := hs
  obtain ⟨q1, rfl, hxx⟩ : ∃ q, pv = .pointer (some ⟨q, 0, none⟩) ∧ ExAt w0 x X q := by rw [hvl] at h2; exact h2
  obtain rfl : pi = .pointer none := by rw [hix] at h1; exact h1
  have HF : Hid (m.assign s.var s.idx s.val = (mxF x m).2.put (s.var.at' - 384) (mxF x m).1) := hide (by rw [hix, hvl]; rfl)
  have HVx : Hid (∀ w', Km g w0 w' → MAt w' g m → Calls Tryz.prog 63 #[.pointer (some ⟨g, 0, none⟩), .pointer (some ⟨q1, 0, none⟩)] w' (McPost g (.int .u32 ((mxF x m).1 : Nat)) (mxF x m).2 w')) := hide (fun w' hk' hm' => hx w' g m d q1 X (hxx.km hk' hX) hX hm' hk)
  have HWx : Hid ((mxF x m).2.words.length = 96) := hide ((mx_ok x hxk d m hk).1.wl)
  obtain ⟨g1, g2⟩ := ha
  have hKlt : s.var.at' - 384 < 96 := by omega
  have hw1 : IntKind.i64.wrap ((s.var.at' : Int) - 384) = (s.var.at' : Int) - 384 := by rw [IntKind.wrap_i64]; omega
  have hn0 : (0 : Int) ≤ (s.var.at' : Int) - 384 := by omega
  have hn1 : (s.var.at' : Int) - 384 < 96 := by omega
  have hnt : ((s.var.at' : Int) - 384).toNat = s.var.at' - 384 := by omega
  rw [HF.out]
  clear hxx hx hxk hix hvl hk HF
  have hby := By.of h.lt h1 h2 h3 h4 hX
  have HM1 := hide (h.below (w' := (w0.alloc (.cells (stL s.word s.var (.pointer none) (.pointer (some ⟨q1, 0, none⟩)) pb s.oth pr).toArray 92))) ((Below.refl _ _).alloc (Nat.le_refl _) _))
  have HBy := hide hby
  clear h h1 h2 h3 h4 hX hby
  go_enter Tryz.func60, Tryz.ntmps60
  go_upto_region 1 with fail
  change Code.wp _ _ _ _ (w0.alloc (.cells (stL s.word s.var (.pointer none) (.pointer (some ⟨q1, 0, none⟩)) pb s.oth pr).toArray 92))
  generalize w0.alloc (.cells (stL s.word s.var (.pointer none) (.pointer (some ⟨q1, 0, none⟩)) pb s.oth pr).toArray 92) = w1 at *
  generalize w0.heap.size = q at *
  have HK1 := hide (Km.refl g w1)
  have b4 := HBy.out.b.get (j := 4) rfl
  have b5 := HBy.out.b.get (j := 5) rfl
  go_upto_region 6 with fail
  have HDr := hide (Below.km_drew HK1.out)
  have HMd := hide HM1.out.drew
  have HLv := hide (HVx.out _ (HBy.out.k.trans HDr.out) HMd.out)
  have HS0 : Hid ((fun W : World => W.cell? ⟨q, 6, none⟩ = some (.pointer (some ⟨q1, 0, none⟩))) w1.drew) := hide ((HBy.out.b.km HDr.out HBy.out.ng (by decide)).get (j := 6) rfl)
  obtain ⟨wD, hwD⟩ : ∃ wD, wD = w1.drew := ⟨_, rfl⟩
  rw [← hwD] at HLv HS0 HDr HMd
  refine wp_region_held_drew (S := fun W : World => W.cell? ⟨q, 6, none⟩ = some (.pointer (some ⟨q1, 0, none⟩))) (by kernel_rfl) (by rw [← hwD]; exact HS0.out) (fun hHeld => ?_)
  rw [← hwD]
  clear hwD hHeld HK1 HM1
  refine hd_take 0 (o := ⟨some 28, _, _, _, _, _⟩) (.pointer (some ⟨g, 0, none⟩)) (by kernel_rfl) (by kernel_rfl) (by kernel_rfl) rfl (by rfl) (fun W hSw => by go_simp) (fun _ _ _ h => h) HS0.out ?_
  simp only [Act.put, List.setIfInBounds_toArray, List.set_cons_zero, List.set_cons_succ]
  refine hd_take 1 (o := ⟨some 29, _, _, _, _, _⟩) (.int .i64 ((s.var.at' : Int) - 384)) (by kernel_rfl) (by kernel_rfl) (by kernel_rfl) rfl (by rfl) (fun W hSw => by go_simp) (fun _ _ _ h => h) HS0.out ?_
  simp only [Act.put, List.setIfInBounds_toArray, List.set_cons_zero, List.set_cons_succ]
  refine hd_take 2 (o := ⟨some 30, _, _, _, _, _⟩) (.pointer (some ⟨g, 0, none⟩)) (by kernel_rfl) (by kernel_rfl) (by kernel_rfl) rfl (by rfl) (fun W hSw => by go_simp) (fun _ _ _ h => h) HS0.out ?_
  simp only [Act.put, List.setIfInBounds_toArray, List.set_cons_zero, List.set_cons_succ]
  refine hd_take 3 (o := ⟨some 31, _, _, _, _, _⟩) (.pointer (some ⟨q, 6, none⟩)) (by kernel_rfl) (by kernel_rfl) (by kernel_rfl) rfl (by rfl) (fun W hSw => by go_simp) (fun _ _ _ h => h) HS0.out ?_
  simp only [Act.put, List.setIfInBounds_toArray, List.set_cons_zero, List.set_cons_succ]
  refine hd_take 4 (o := ⟨some 32, _, _, _, _, _⟩) (.pointer (some ⟨q1, 0, none⟩)) (by kernel_rfl) (by kernel_rfl) (by kernel_rfl) rfl (by rfl) (fun W hSw => by have k : W.cell? ⟨q, 6, none⟩ = some (.pointer (some ⟨q1, 0, none⟩)) := hSw; go_simp) (fun _ _ _ h => h) HS0.out ?_
  simp only [Act.put, List.setIfInBounds_toArray, List.set_cons_zero, List.set_cons_succ]
  refine hd_take 6 (o := ⟨some 34, _, _, _, _, _⟩) (.pointer (some ⟨g, 0, none⟩)) (by kernel_rfl) (by kernel_rfl) (by kernel_rfl) rfl (by rfl) (fun W hSw => by go_simp) (fun _ _ _ h => h) HS0.out ?_
  simp only [Act.put, List.setIfInBounds_toArray, List.set_cons_zero, List.set_cons_succ]
  refine hd_take 7 (o := ⟨some 35, _, _, _, _, _⟩) (.pointer (some ⟨g, 5, none⟩)) (by kernel_rfl) (by kernel_rfl) (by kernel_rfl) rfl (by rfl) (fun W hSw => by go_simp) (fun _ _ _ h => h) HS0.out ?_
  simp only [Act.put, List.setIfInBounds_toArray, List.set_cons_zero, List.set_cons_succ]
  refine hd_call 5 (o := ⟨some 33, _, _, _, _, _⟩) (by kernel_rfl) rfl (by rfl) (fun K' hK => ?_)
  go_simp
  go_wp2_with (go_at_call 63; refine HLv.out.mono ?_; rintro e1 wv ⟨rfl, hm2, hk2⟩)
  have HKv := hide (HDr.out.trans hk2)
  have HMv := hide hm2
  have HS1 : Hid ((fun W : World => W.cell? ⟨q, 6, none⟩ = some (.pointer (some ⟨q1, 0, none⟩))) wv) := hide ((HBy.out.b.km HKv.out HBy.out.ng (by decide)).get (j := 6) rfl)
  clear hm2 hk2 HLv HS0 HDr HMd
  refine hK _ _ HS1.out ?_
  clear hK K'
  try simp only [Act.put, List.setIfInBounds_toArray, List.set_cons_zero, List.set_cons_succ]
  refine hd_take 8 (o := ⟨some 36, _, _, _, _, _⟩) (.pointer (some ⟨g, 5 + (s.var.at' - 384), none⟩)) (by kernel_rfl) (by kernel_rfl) (by kernel_rfl) rfl (by rfl) (fun W hSw => by (go_simp; try (intro hlt; omega))) (fun _ _ _ h => h) HS1.out ?_
  simp only [Act.put, List.setIfInBounds_toArray, List.set_cons_zero, List.set_cons_succ]
  obtain ⟨cp, fp⟩ := HMv.out.cell (j := 5 + (s.var.at' - 384)) (x := .int .u32 ((mxF x (m)).2.word (s.var.at' - 384) : Nat)) (fun ov an => mc_word ov an _ HWx.out _ hKlt)
  refine hd_call 9 (o := ⟨none, _, _, _, _, _⟩) (by kernel_rfl) rfl (by rfl) (fun K' hK => ?_)
  go_simp
  have HMf := hide (HMv.out.put HWx.out (s.var.at' - 384) (mxF x (m)).1 hKlt)
  have HKf := hide (km_set HKv.out (5 + (s.var.at' - 384)) (.int .u32 ((mxF x (m)).1 : Nat)))
  refine hK _ _ ((HBy.out.b.km HKf.out HBy.out.ng (by decide)).get (j := 6) rfl) ?_
  clear hK K'
  try simp only [Act.put, List.setIfInBounds_toArray, List.set_cons_zero, List.set_cons_succ]
  refine wpAnyH_done (by kernel_rfl) ?_ _
  clear cp fp
  go_wp2
  go_end0
  exact ⟨rfl, HMf.out, HBy.out.k.trans HKf.out⟩
set_option maxHeartbeats 8000000 in
set_option maxRecDepth 100000 in
theorem masn_some (w0 : World) (g : Nat) (m : Mc) (d : Nat) (X : Nat → Prop) (s : Sl) (cs : List Value) (hs : StA w0 s X cs) (hX : ∀ j, X j → j < g) (h : MAt w0 g m) (hk : Mok d m) (i x : Ex) (hix : s.idx = some i) (hvl : s.val = some x) (hi : MvE i) (hik : exK i) (hx : MvE x) (hxk : exK x) (ha : 384 ≤ s.var.at' ∧ s.var.at' + s.var.size ≤ 480) : Calls Tryz.prog 60 #[.pointer (some ⟨g, 0, none⟩), .agg cs.toArray] w0 (McPost g (.tuple #[]) (m.assign s.var s.idx s.val) w0) := by
  obtain ⟨pi, pv, pb, pr, rfl, h1, h2, h3, h4⟩ := hs
  obtain ⟨q1, rfl, hxx⟩ : ∃ q, pv = .pointer (some ⟨q, 0, none⟩) ∧ ExAt w0 x X q := by rw [hvl] at h2; exact h2
  obtain ⟨q2, rfl, hii⟩ : ∃ q, pi = .pointer (some ⟨q, 0, none⟩) ∧ ExAt w0 i X q := by rw [hix] at h1; exact h1
  have HF : Hid (m.assign s.var s.idx s.val = match Mc.index (mxF i) s.var m with | (none, m1) => m1 | (some k, m1) => (mxF x m1).2.put (s.var.at' - 384 + k) (mxF x m1).1) := hide (by rw [hix, hvl]; rfl)
  have HIx : Hid (∀ w', Km g w0 w' → MAt w' g m → Calls Tryz.prog 94 #[.pointer (some ⟨g, 0, none⟩), .agg (vrL s.var).toArray, .pointer (some ⟨q2, 0, none⟩)] w' (McPost g (ixV (Mc.index (mxF i) s.var m).1) (Mc.index (mxF i) s.var m).2 w')) := hide (fun w' hk' hm' => index_any w' g m d i s.var q2 X (hii.km hk' hX) hX hi hik hm' hk)
  obtain ⟨o1, o2⟩ := index_ok (mx_ok i hik) s.var hk
  obtain ⟨z, hz⟩ : ∃ z, Mc.index (mxF i) s.var m = z := ⟨_, rfl⟩
  rw [hz] at HF HIx o1 o2
  obtain ⟨o, m1⟩ := z
  dsimp only at HIx o1 o2
  have HVx : Hid (∀ w', Km g w0 w' → MAt w' g m1 → Calls Tryz.prog 63 #[.pointer (some ⟨g, 0, none⟩), .pointer (some ⟨q1, 0, none⟩)] w' (McPost g (.int .u32 ((mxF x m1).1 : Nat)) (mxF x m1).2 w')) := hide (fun w' hk' hm' => hx w' g m1 d q1 X (hxx.km hk' hX) hX hm' o1)
  have HWx : Hid ((mxF x m1).2.words.length = 96) := hide ((mx_ok x hxk d m1 o1).1.wl)
  obtain ⟨g1, g2⟩ := ha
  have hw1 : IntKind.i64.wrap ((s.var.at' : Int) - 384) = (s.var.at' : Int) - 384 := by rw [IntKind.wrap_i64]; omega
  rw [HF.out]
  clear hxx hx hxk hi hik hii hix hvl hk HF hz o1
  have hby := By.of h.lt h1 h2 h3 h4 hX
  have HM1 := hide (h.below (w' := (w0.alloc (.cells (stL s.word s.var (.pointer (some ⟨q2, 0, none⟩)) (.pointer (some ⟨q1, 0, none⟩)) pb s.oth pr).toArray 92))) ((Below.refl _ _).alloc (Nat.le_refl _) _))
  have HBy := hide hby
  clear h h1 h2 h3 h4 hX hby
  go_enter Tryz.func60, Tryz.ntmps60
  go_upto_region 1 with fail
  change Code.wp _ _ _ _ (w0.alloc (.cells (stL s.word s.var (.pointer (some ⟨q2, 0, none⟩)) (.pointer (some ⟨q1, 0, none⟩)) pb s.oth pr).toArray 92))
  generalize w0.alloc (.cells (stL s.word s.var (.pointer (some ⟨q2, 0, none⟩)) (.pointer (some ⟨q1, 0, none⟩)) pb s.oth pr).toArray 92) = w1 at *
  generalize w0.heap.size = q at *
  have HK1 := hide (Km.refl g w1)
  have b1 := HBy.out.b.get (j := 1) rfl
  have b2 := HBy.out.b.get (j := 2) rfl
  have b3 := HBy.out.b.get (j := 3) rfl
  have b4 := HBy.out.b.get (j := 4) rfl
  have b5 := HBy.out.b.get (j := 5) rfl
  go_wp2_with fail
  refine (HIx.out w1 HBy.out.k HM1.out).mono ?_
  rintro e w2 ⟨rfl, hm2, hk2⟩
  have HM2 := hide hm2
  have HK2 := hide hk2
  clear hm2 hk2 HM1 HK1 HIx b1 b2 b3 b4 b5
  unfold ixV
  cases o with
  | none =>
    dsimp only [Option.getD, Option.isSome]
    go_wp2
    go_end0
    exact ⟨rfl, HM2.out, HBy.out.k.trans HK2.out⟩
  | some k =>
    have hk := o2 k rfl
    have hKlt : s.var.at' - 384 + k < 96 := by omega
    have hw2 : IntKind.i64.wrap ((s.var.at' : Int) - 384 + (k : Int)) = (s.var.at' : Int) - 384 + (k : Int) := by rw [IntKind.wrap_i64]; omega
    have hn0 : (0 : Int) ≤ (s.var.at' : Int) - 384 + (k : Int) := by omega
    have hn1 : (s.var.at' : Int) - 384 + (k : Int) < 96 := by omega
    have hnt : ((s.var.at' : Int) - 384 + (k : Int)).toNat = s.var.at' - 384 + k := by omega
    dsimp only [Option.getD, Option.isSome]
    go_upto_region 6 with fail
    have HDr := hide (Below.km_drew HK2.out)
    have HMd := hide HM2.out.drew
    have HLv := hide (HVx.out _ (HBy.out.k.trans HDr.out) HMd.out)
    have HS0 : Hid ((fun W : World => W.cell? ⟨q, 6, none⟩ = some (.pointer (some ⟨q1, 0, none⟩))) w2.drew) := hide ((HBy.out.b.km HDr.out HBy.out.ng (by decide)).get (j := 6) rfl)
    obtain ⟨wD, hwD⟩ : ∃ wD, wD = w2.drew := ⟨_, rfl⟩
    rw [← hwD] at HLv HS0 HDr HMd
    refine wp_region_held_drew (S := fun W : World => W.cell? ⟨q, 6, none⟩ = some (.pointer (some ⟨q1, 0, none⟩))) (by kernel_rfl) (by rw [← hwD]; exact HS0.out) (fun hHeld => ?_)
    rw [← hwD]
    clear hwD hHeld HK2 HM2
    refine hd_take 0 (o := ⟨some 28, _, _, _, _, _⟩) (.pointer (some ⟨g, 0, none⟩)) (by kernel_rfl) (by kernel_rfl) (by kernel_rfl) rfl (by rfl) (fun W hSw => by go_simp) (fun _ _ _ h => h) HS0.out ?_
    simp only [Act.put, List.setIfInBounds_toArray, List.set_cons_zero, List.set_cons_succ]
    refine hd_take 1 (o := ⟨some 29, _, _, _, _, _⟩) (.int .i64 ((s.var.at' : Int) - 384 + (k : Int))) (by kernel_rfl) (by kernel_rfl) (by kernel_rfl) rfl (by rfl) (fun W hSw => by go_simp) (fun _ _ _ h => h) HS0.out ?_
    simp only [Act.put, List.setIfInBounds_toArray, List.set_cons_zero, List.set_cons_succ]
    refine hd_take 2 (o := ⟨some 30, _, _, _, _, _⟩) (.pointer (some ⟨g, 0, none⟩)) (by kernel_rfl) (by kernel_rfl) (by kernel_rfl) rfl (by rfl) (fun W hSw => by go_simp) (fun _ _ _ h => h) HS0.out ?_
    simp only [Act.put, List.setIfInBounds_toArray, List.set_cons_zero, List.set_cons_succ]
    refine hd_take 3 (o := ⟨some 31, _, _, _, _, _⟩) (.pointer (some ⟨q, 6, none⟩)) (by kernel_rfl) (by kernel_rfl) (by kernel_rfl) rfl (by rfl) (fun W hSw => by go_simp) (fun _ _ _ h => h) HS0.out ?_
    simp only [Act.put, List.setIfInBounds_toArray, List.set_cons_zero, List.set_cons_succ]
    refine hd_take 4 (o := ⟨some 32, _, _, _, _, _⟩) (.pointer (some ⟨q1, 0, none⟩)) (by kernel_rfl) (by kernel_rfl) (by kernel_rfl) rfl (by rfl) (fun W hSw => by have k : W.cell? ⟨q, 6, none⟩ = some (.pointer (some ⟨q1, 0, none⟩)) := hSw; go_simp) (fun _ _ _ h => h) HS0.out ?_
    simp only [Act.put, List.setIfInBounds_toArray, List.set_cons_zero, List.set_cons_succ]
    refine hd_take 6 (o := ⟨some 34, _, _, _, _, _⟩) (.pointer (some ⟨g, 0, none⟩)) (by kernel_rfl) (by kernel_rfl) (by kernel_rfl) rfl (by rfl) (fun W hSw => by go_simp) (fun _ _ _ h => h) HS0.out ?_
    simp only [Act.put, List.setIfInBounds_toArray, List.set_cons_zero, List.set_cons_succ]
    refine hd_take 7 (o := ⟨some 35, _, _, _, _, _⟩) (.pointer (some ⟨g, 5, none⟩)) (by kernel_rfl) (by kernel_rfl) (by kernel_rfl) rfl (by rfl) (fun W hSw => by go_simp) (fun _ _ _ h => h) HS0.out ?_
    simp only [Act.put, List.setIfInBounds_toArray, List.set_cons_zero, List.set_cons_succ]
    refine hd_call 5 (o := ⟨some 33, _, _, _, _, _⟩) (by kernel_rfl) rfl (by rfl) (fun K' hK => ?_)
    go_simp
    go_wp2_with (go_at_call 63; refine HLv.out.mono ?_; rintro e1 wv ⟨rfl, hm2, hk2⟩)
    have HKv := hide (HDr.out.trans hk2)
    have HMv := hide hm2
    have HS1 : Hid ((fun W : World => W.cell? ⟨q, 6, none⟩ = some (.pointer (some ⟨q1, 0, none⟩))) wv) := hide ((HBy.out.b.km HKv.out HBy.out.ng (by decide)).get (j := 6) rfl)
    clear hm2 hk2 HLv HS0 HDr HMd
    refine hK _ _ HS1.out ?_
    clear hK K'
    try simp only [Act.put, List.setIfInBounds_toArray, List.set_cons_zero, List.set_cons_succ]
    refine hd_take 8 (o := ⟨some 36, _, _, _, _, _⟩) (.pointer (some ⟨g, 5 + (s.var.at' - 384 + k), none⟩)) (by kernel_rfl) (by kernel_rfl) (by kernel_rfl) rfl (by rfl) (fun W hSw => by (go_simp; try (intro hlt; omega))) (fun _ _ _ h => h) HS1.out ?_
    simp only [Act.put, List.setIfInBounds_toArray, List.set_cons_zero, List.set_cons_succ]
    obtain ⟨cp, fp⟩ := HMv.out.cell (j := 5 + (s.var.at' - 384 + k)) (x := .int .u32 ((mxF x (m1)).2.word (s.var.at' - 384 + k) : Nat)) (fun ov an => mc_word ov an _ HWx.out _ hKlt)
    refine hd_call 9 (o := ⟨none, _, _, _, _, _⟩) (by kernel_rfl) rfl (by rfl) (fun K' hK => ?_)
    go_simp
    have HMf := hide (HMv.out.put HWx.out (s.var.at' - 384 + k) (mxF x (m1)).1 hKlt)
    have HKf := hide (km_set HKv.out (5 + (s.var.at' - 384 + k)) (.int .u32 ((mxF x (m1)).1 : Nat)))
    refine hK _ _ ((HBy.out.b.km HKf.out HBy.out.ng (by decide)).get (j := 6) rfl) ?_
    clear hK K'
    try simp only [Act.put, List.setIfInBounds_toArray, List.set_cons_zero, List.set_cons_succ]
    refine wpAnyH_done (by kernel_rfl) ?_ _
    clear cp fp
    go_wp2
    go_end0
    exact ⟨rfl, HMf.out, HBy.out.k.trans HKf.out⟩
end Go.Proofs.YtiafodeabdhcoaaGreatDoor

namespace Go.Proofs.YtiafodeabdhcoaaGreatDoor
open Go.RowKit
/-- the machine's contract for statements -/
def MaC (o : Option Sl) : Prop := ∀ (w : World) (g : Nat) (m : Mc) (d : Nat) (X : Nat → Prop) (v : Value), LsO w o X v → (∀ j, X j → j < g) → MAt w g m → Mok d m →
  Calls Tryz.prog 26 #[.pointer (some ⟨g, 0, none⟩), v] w (McPost g (.int .i64 ((maO o m).1 : Nat)) (maO o m).2 w)
set_option maxHeartbeats 8000000 in
set_option maxRecDepth 100000 in
theorem mcho_any (w0 : World) (g : Nat) (m : Mc) (d : Nat) (X : Nat → Prop) (s : Sl) (cs : List Value) (hs : StA w0 s X cs) (hX : ∀ j, X j → j < g) (h : MAt w0 g m) (hk : Mok d m) (x : Ex) (hvl : s.val = some x) (hx : MvE x) (hxk : exK x) (hcb : MaC s.body) (hcr : MaC s.rest) : Calls Tryz.prog 61 #[.pointer (some ⟨g, 0, none⟩), .agg cs.toArray] w0 (McPost g (.int .i64 ((if (mxO s.val m).1 ≠ 0 then maO s.body (mxO s.val m).2 else maO s.rest (mxO s.val m).2).1 : Nat)) (if (mxO s.val m).1 ≠ 0 then maO s.body (mxO s.val m).2 else maO s.rest (mxO s.val m).2).2 w0) := by
  obtain ⟨pi, pv, pb, pr, rfl, h1, h2, h3, h4⟩ := hs
  obtain ⟨q1, rfl, hxx⟩ : ∃ q, pv = .pointer (some ⟨q, 0, none⟩) ∧ ExAt w0 x X q := by rw [hvl] at h2; exact h2
  obtain ⟨a3, n3, c3, rfl⟩ := ls_one h3
  obtain ⟨a4, n4, c4, rfl⟩ := ls_one h4
  have HVx : Hid (∀ w', Km g w0 w' → MAt w' g m → Calls Tryz.prog 63 #[.pointer (some ⟨g, 0, none⟩), .pointer (some ⟨q1, 0, none⟩)] w' (McPost g (.int .u32 ((mxF x m).1 : Nat)) (mxF x m).2 w')) := hide (fun w' hk' hm' => hx w' g m d q1 X (hxx.km hk' hX) hX hm' hk)
  have hev : mxO s.val m = mxF x m := by rw [hvl]; rfl
  rw [hev]
  obtain ⟨o1, o2⟩ := mx_ok x hxk d m hk
  obtain ⟨z, hz⟩ : ∃ z, mxF x m = z := ⟨_, rfl⟩
  rw [hz] at HVx o1 o2 ⊢
  obtain ⟨c, m1⟩ := z
  dsimp only at HVx o1 o2 ⊢
  obtain ⟨R, hR⟩ : ∃ R, (if c ≠ 0 then maO s.body m1 else maO s.rest m1) = R := ⟨_, rfl⟩
  rw [hR]
  have HR := hide hR
  have HO := hide o1
  have HCb := hide hcb
  have HCr := hide hcr
  clear hR hxx hx hxk hvl hk hev hz o1 hcb hcr
  have hby := By.of h.lt h1 h2 h3 h4 hX
  have HM1 := hide (h.below (w' := (w0.alloc (.cells (stL s.word s.var pi (.pointer (some ⟨q1, 0, none⟩)) (.slice a3 n3 c3) s.oth (.slice a4 n4 c4)).toArray 92))) ((Below.refl _ _).alloc (Nat.le_refl _) _))
  have HBy := hide hby
  clear h h1 h2 h3 h4 hX hby
  go_enter Tryz.func61, Tryz.ntmps61
  go_upto_region 1 with fail
  change Code.wp _ _ _ _ (w0.alloc (.cells (stL s.word s.var pi (.pointer (some ⟨q1, 0, none⟩)) (.slice a3 n3 c3) s.oth (.slice a4 n4 c4)).toArray 92))
  generalize w0.alloc (.cells (stL s.word s.var pi (.pointer (some ⟨q1, 0, none⟩)) (.slice a3 n3 c3) s.oth (.slice a4 n4 c4)).toArray 92) = w1 at *
  generalize w0.heap.size = q at *
  have HK1 := hide (Km.refl g w1)
  have b6 := HBy.out.b.get (j := 6) rfl
  go_wp2_with fail
  refine (HVx.out w1 HBy.out.k HM1.out).mono ?_
  rintro e w2 ⟨rfl, hm2, hk2⟩
  have HM2 := hide hm2
  have HK2 := hide hk2
  clear hm2 hk2 HM1 HK1 HVx b6
  by_cases hc : c = 0
  · rw [if_neg (fun h => h hc)] at HR
    have hcb : ((c : Int) != 0) = false := by simp; omega
    have hcb2 : ((c : Int) == 0) = true := by simp; omega
    have b9 := (HBy.out.b.km HK2.out HBy.out.ng (by decide)).get (j := 9) rfl
    have HA := hide (HCr.out w2 g m1 d X _ (HBy.out.r.km HK2.out HBy.out.x) HBy.out.x HM2.out HO.out)
    clear hc
    go_wp2_with fail
    refine HA.out.mono ?_
    rintro e w3 ⟨rfl, hm3, hk3⟩
    have HM3 := hide hm3
    have HK3 := hide (HK2.out.trans hk3)
    clear hm3 hk3 HA b9
    go_wp2
    go_ret
    rw [← HR.out]
    exact ⟨rfl, HM3.out, HBy.out.k.trans HK3.out⟩
  · rw [if_pos hc] at HR
    have hcb : ((c : Int) != 0) = true := by simp; omega
    have hcb2 : ((c : Int) == 0) = false := by simp; omega
    have b7 := (HBy.out.b.km HK2.out HBy.out.ng (by decide)).get (j := 7) rfl
    have HA := hide (HCb.out w2 g m1 d X _ (HBy.out.d.km HK2.out HBy.out.x) HBy.out.x HM2.out HO.out)
    clear hc
    go_wp2_with fail
    refine HA.out.mono ?_
    rintro e w3 ⟨rfl, hm3, hk3⟩
    have HM3 := hide hm3
    have HK3 := hide (HK2.out.trans hk3)
    clear hm3 hk3 HA b7
    go_wp2
    go_ret
    rw [← HR.out]
    exact ⟨rfl, HM3.out, HBy.out.k.trans HK3.out⟩
set_option maxHeartbeats 8000000 in
set_option maxRecDepth 100000 in
theorem mrep_any (w0 : World) (g : Nat) (m : Mc) (d : Nat) (X : Nat → Prop) (s : Sl) (cs : List Value) (hs : StA w0 s X cs) (hX : ∀ j, X j → j < g) (h : MAt w0 g m) (hk : Mok d m) (x : Ex) (hvl : s.val = some x) (hx : MvE x) (hxk : exK x) (hcb : MaC s.body) (hbk : slOK s.body) : Calls Tryz.prog 62 #[.pointer (some ⟨g, 0, none⟩), .agg cs.toArray] w0 (McPost g (.tuple #[]) (whF (mxO s.val) (maO s.body) (m.fuel + 1) m) w0) := by
  obtain ⟨pi, pv, pb, pr, rfl, h1, h2, h3, h4⟩ := hs
  obtain ⟨q1, rfl, hxx⟩ : ∃ q, pv = .pointer (some ⟨q, 0, none⟩) ∧ ExAt w0 x X q := by rw [hvl] at h2; exact h2
  obtain ⟨a3, n3, c3, rfl⟩ := ls_one h3
  have hev : mxO s.val = mxF x := by rw [hvl]; rfl
  rw [hev]
  have HXX := hide hxx
  have HX := hide hX
  have HEx := hide hx
  have HEk := hide hxk
  have HCb := hide hcb
  have HBk := hide (ma_ok s.body hbk)
  have HFb := hide (ma_fle s.body)
  have HOk := hide hk
  obtain ⟨R, hR⟩ : ∃ R, whF (mxF x) (maO s.body) (m.fuel + 1) m = R := ⟨_, rfl⟩
  rw [hR]
  have HR := hide hR
  clear hxx hx hxk hvl hk hev hcb hbk hR
  have hby := By.of h.lt h1 h2 h3 h4 hX
  have HM1 := hide (h.below (w' := (w0.alloc (.cells (stL s.word s.var pi (.pointer (some ⟨q1, 0, none⟩)) (.slice a3 n3 c3) s.oth pr).toArray 92))) ((Below.refl _ _).alloc (Nat.le_refl _) _))
  have HBy := hide hby
  clear h h1 h2 h3 h4 hX hby
  go_enter Tryz.func62, Tryz.ntmps62
  go_upto_region 1 with fail
  change Code.wp _ _ _ _ (w0.alloc (.cells (stL s.word s.var pi (.pointer (some ⟨q1, 0, none⟩)) (.slice a3 n3 c3) s.oth pr).toArray 92))
  generalize w0.alloc (.cells (stL s.word s.var pi (.pointer (some ⟨q1, 0, none⟩)) (.slice a3 n3 c3) s.oth pr).toArray 92) = w1 at *
  generalize w0.heap.size = q at *
  have HK1 := hide (Km.refl g w1)
  have hq3 : Hid (q ≠ g) := hide HBy.out.ng
  go_loopw [19] (fun _ wr => ∃ (n : Nat) (m' : Mc), Hid (whF (mxF x) (maO s.body) n m' = R) ∧ Hid (m'.fuel + 1 ≤ n) ∧ Hid (MAt wr g m') ∧ Hid (Km g w1 wr) ∧ Hid (Mok d m')) (fun _ wr => (RowKit.intOf ((wr.cell? ⟨g, 102, none⟩).getD undef)).toNat)
  case atStart => exact ⟨m.fuel + 1, m, HR, hide (Nat.le_refl _), HM1, HK1, HOk⟩
  case round =>
    obtain ⟨n, m', hwn, hnf, hM, hKm, hok⟩ := hrel
    obtain ⟨n, rfl⟩ : ∃ k, n = k + 1 := ⟨n - 1, by have := hnf.out; omega⟩
    have HSp := hide (spend_any wr g m' d hM.out hok.out)
    have hf1 := (spend_fuel m').2
    obtain ⟨hcr, _⟩ := hM.out.cell (j := 102) (x := .int .i64 (m'.fuel : Nat)) (fun ov an => (mc_get ov an m' hok.out.wl).2.1)
    have HCr := hide hcr
    have hok1 := (mok_spend hok.out).1
    have hu := hwn.out
    unfold whF at hu
    clear hwn hcr
    by_cases hs : m'.spend.1 = false
    · rw [if_pos hs] at hu
      rw [hs] at HSp
      have HU := hide hu
      clear hu hs hf1 hok1
      go_wp2_with fail
      refine HSp.out.mono ?_
      rintro e w2 ⟨rfl, hm2, hk2⟩
      have HM2 := hide hm2
      have HK2 := hide (hKm.out.trans hk2)
      clear hm2 hk2 HSp
      go_wp2
      go_end0
      rw [← HU.out]
      exact ⟨rfl, HM2.out, HBy.out.k.trans HK2.out⟩
    · rw [if_neg hs] at hu
      have hs' : m'.spend.1 = true := by simpa using hs
      have hf2 := hf1 hs'
      rw [hs'] at HSp
      obtain ⟨m2, hm2e⟩ : ∃ z, m'.spend.2 = z := ⟨_, rfl⟩
      rw [hm2e] at hu HSp hf2 hok1
      obtain ⟨o1, o2⟩ := mx_ok x HEk.out d m2 hok1
      have hfx := mx_fle x m2
      have HO1 := hide hok1
      clear hs hs' hf1 hm2e hok1
      go_wp2_with fail
      refine HSp.out.mono ?_
      rintro e w2 ⟨rfl, hm2, hk2⟩
      have HM2 := hide hm2
      have HK2 := hide (hKm.out.trans hk2)
      clear hm2 hk2 HSp
      have b6 := (HBy.out.b.km HK2.out HBy.out.ng (by decide)).get (j := 6) rfl
      have HVx := hide (HEx.out w2 g m2 d q1 X (HXX.out.km (HBy.out.k.trans HK2.out) HX.out) HX.out HM2.out HO1.out)
      obtain ⟨z, hz⟩ : ∃ z, mxF x m2 = z := ⟨_, rfl⟩
      rw [hz] at hu o1 o2 hfx HVx
      obtain ⟨c, m3⟩ := z
      dsimp only at hu o1 o2 hfx HVx
      have HO3 := hide o1
      clear hz o1 HM2
      go_wp2_with fail
      refine HVx.out.mono ?_
      rintro e w3 ⟨rfl, hm3, hk3⟩
      have HM3 := hide hm3
      have HK3 := hide (HK2.out.trans hk3)
      clear hm3 hk3 HVx HK2 b6
      by_cases hc : c = 0
      · rw [if_pos hc] at hu
        have HU := hide hu
        have hcb : ((c : Int) != 0) = false := by simp; omega
        have hcb2 : ((c : Int) == 0) = true := by simp; omega
        clear hu hc
        go_wp2
        go_end0
        rw [← HU.out]
        exact ⟨rfl, HM3.out, HBy.out.k.trans HK3.out⟩
      · rw [if_neg hc] at hu
        have hcb : ((c : Int) != 0) = true := by simp; omega
        have hcb2 : ((c : Int) == 0) = false := by simp; omega
        have b7 := (HBy.out.b.km HK3.out HBy.out.ng (by decide)).get (j := 7) rfl
        have HA := hide (HCb.out w3 g m3 d X _ (HBy.out.d.km HK3.out HBy.out.x) HBy.out.x HM3.out HO3.out)
        have o4 := HBk.out d m3 HO3.out
        have hfb := HFb.out m3
        obtain ⟨z, hz⟩ : ∃ z, maO s.body m3 = z := ⟨_, rfl⟩
        rw [hz] at hu o4 hfb HA
        obtain ⟨left, m4⟩ := z
        dsimp only at hu o4 hfb HA
        have HO4 := hide o4
        clear hz o4 hc HM3
        go_wp2_with fail
        refine HA.out.mono ?_
        rintro e w4 ⟨rfl, hm4, hk4⟩
        have HM4 := hide hm4
        have HK4 := hide (HK3.out.trans hk4)
        clear hm4 hk4 HA HK3 b7
        by_cases hl : left = 1
        · rw [if_pos hl] at hu
          have HU := hide hu
          have hlb : ((left : Int) != 1) = false := by simp; omega
          have hlb2 : ((left : Int) == 1) = true := by simp; omega
          clear hu hl
          go_wp2
          go_end0
          rw [← HU.out]
          exact ⟨rfl, HM4.out, HBy.out.k.trans HK4.out⟩
        · rw [if_neg hl] at hu
          have HU := hide hu
          have hlb : ((left : Int) != 1) = true := by simp; omega
          have hlb2 : ((left : Int) == 1) = false := by simp; omega
          have HFl : Hid (m4.fuel + 1 ≤ n) := hide (by have := hnf.out; omega)
          have HFd : Hid (m4.fuel + 1 ≤ m'.fuel) := hide (by omega)
          obtain ⟨hc4, _⟩ := HM4.out.cell (j := 102) (x := .int .i64 (m4.fuel : Nat)) (fun ov an => (mc_get ov an m4 HO4.out.wl).2.1)
          have HC4 := hide hc4
          clear hu hl hc4
          go_wp2
          go_roundw
          case rel => exact ⟨n, m4, HU, HFl, HM4, HK4, HO4⟩
          case measure =>
            rw [HC4.out, HCr.out]
            have := HFd.out
            simp [RowKit.intOf]
            omega
end Go.Proofs.YtiafodeabdhcoaaGreatDoor
