import Derived.Test.YtfjgmhghjbikfaaL2
namespace Go.Proofs.Ytfjgmhghjbikfaa
open Go.RowKit

set_option maxHeartbeats 400000 in
theorem dropV_any (w : World) (F : Nat → Prop) (B : Nat) (m : List (Option Int)) (h : Tab KI w F B m) (i : Int) :
    Calls Try.prog 35 #[.pointer (some ⟨B, 0, none⟩), .int .i64 i] w fun e w' => ∃ m', e = .returned (.tuple #[.int .i64 ((look m i).getD 0), .bool (look m i).isSome]) ∧ Tab KI w' F B m' ∧ Ext F w F w' ∧
      ((look m i = none ∧ m' = m) ∨ ∃ (k : Nat) (x : Int), i = k ∧ m[k]? = some (some x) ∧ m' = m.set k none) := by
  have HT := hide h
  have HG := hide (getI_any _ F B m h i)
  have hcnt : m.countP Option.isSome ≤ 4096 := Nat.le_trans count_le h.cap
  have hmi : look m i = none ∨ ∃ (k : Nat) (x : Int), i = k ∧ k < m.length ∧ m[k]? = some (some x) ∧ look m i = some x := by
    rcases look_cases m i with ⟨h1, e⟩ | ⟨k, rfl, hk, hm, e⟩ | ⟨k, x, rfl, hk, hm, e⟩
    · exact .inl e
    · exact .inl e
    · exact .inr ⟨k, x, rfl, hk, hm, e⟩
  rcases hmi with e | ⟨k, x, rfl, hk, hm, e⟩
  · rw [e] at HG ⊢
    have HE := hide e
    clear h e
    go_enter Try.func35, Try.ntmps35
    go_wp2_with fail
    refine HG.out.mono ?_
    rintro e w1 ⟨rfl, rfl⟩
    simp only [Option.getD_none, Option.isSome_none]
    go_wp2
    go_ret2
    exact ⟨m, rfl, HT.out, Ext.refl _ _, .inl ⟨by first | exact HE.out | trivial, rfl⟩⟩
  · rw [e] at HG ⊢
    obtain ⟨p, ps, h⟩ := h
    obtain ⟨c0, c1, f0, f1⟩ := h.cells
    obtain ⟨q, hq1, c2, hq3, hq4⟩ := h.ptr hm
    have f2 := h.frz k
    have hne := h.ne
    have HD := hide (fun t => h.drop hm (c := t))
    have HM := hide (fun a b => ((Mod.refl F w).setCell (p := ⟨p, k, none⟩) (.inl h.fp) a).setCell (p := ⟨B, 1, none⟩) (.inl h.fB) b)
    have HX := hide hm
    have hpos : 0 < m.countP Option.isSome := List.countP_pos_iff.2 ⟨_, List.mem_of_getElem? hm, rfl⟩
    clear h e hm hq1 hq3 hq4
    generalize m.countP Option.isSome = cnt at *
    generalize m.length = n at *
    go_enter Try.func35, Try.ntmps35
    go_wp2_with fail
    refine HG.out.mono ?_
    rintro e w1 ⟨rfl, rfl⟩
    simp only [Option.getD_some, Option.isSome_some]
    go_wp2
    go_ret2
    exact ⟨_, rfl, ⟨_, _, HD.out _ rfl⟩, ⟨HM.out _ _, fun _ h => .inl h⟩, .inr ⟨k, x, rfl, HX.out, rfl⟩⟩

def pI (m : List (Option Int)) : Int := if ff m < m.length then (ff m : Int) else -1
def pE (m : List (Option Int)) : Int := if ff m < m.length then 0 else 2
def pM (m : List (Option Int)) (v : Int) : List (Option Int) := if ff m < m.length then m.set (ff m) (some v) else m
def aE (m : List (Option Int)) (i : Int) : Int := if i < 0 ∨ (m.length : Int) ≤ i then 30 else if (look m i).isSome then 31 else 0
def aM (m : List (Option Int)) (i v : Int) : List (Option Int) := if i < 0 ∨ (m.length : Int) ≤ i then m else if (look m i).isSome then m else m.set i.toNat (some v)
def sM (m : List (Option Int)) (i : Int) (o : Option Int) : List (Option Int) := if (look m i).isSome then m.set i.toNat o else m
theorem pos_put {m : List (Option Int)} (v : Int) (h : ff m < m.length) : pI m = (ff m : Int) ∧ pE m = 0 ∧ pM m v = m.set (ff m) (some v) := by
  unfold pI pE pM; rw [if_pos h, if_pos h, if_pos h]; exact ⟨rfl, rfl, rfl⟩
theorem neg_put {m : List (Option Int)} (v : Int) (h : ff m = m.length) : pI m = -1 ∧ pE m = 2 ∧ pM m v = m := by
  have h' : ¬ ff m < m.length := by omega
  unfold pI pE pM; rw [if_neg h', if_neg h', if_neg h']; exact ⟨rfl, rfl, rfl⟩
theorem at_out {m : List (Option Int)} {i : Int} (v : Int) (h : i < 0 ∨ (m.length : Int) ≤ i) : aE m i = 30 ∧ aM m i v = m := by
  unfold aE aM; rw [if_pos h, if_pos h]; exact ⟨rfl, rfl⟩
theorem in_of {m : List (Option Int)} {k : Nat} {o : Option Int} (h : m[k]? = some o) : ¬ ((k : Int) < 0 ∨ (m.length : Int) ≤ (k : Int)) ∧ look m (k : Int) = o := by
  have := (List.getElem?_eq_some_iff.1 h).1
  refine ⟨by omega, ?_⟩
  rw [look_nat, h]; rfl
theorem at_held {m : List (Option Int)} {k : Nat} {x : Int} (v : Int) (h : m[k]? = some (some x)) : aE m k = 31 ∧ aM m k v = m := by
  obtain ⟨h1, h2⟩ := in_of h
  unfold aE aM; rw [if_neg h1, if_neg h1, h2]; exact ⟨rfl, rfl⟩
theorem at_free {m : List (Option Int)} {k : Nat} (v : Int) (h : m[k]? = some none) : aE m k = 0 ∧ aM m k v = m.set k (some v) := by
  obtain ⟨h1, h2⟩ := in_of h
  unfold aE aM; rw [if_neg h1, if_neg h1, h2]; exact ⟨rfl, by simp⟩
theorem s_no {m : List (Option Int)} {i : Int} (o : Option Int) (h : look m i = none) : sM m i o = m := by unfold sM; rw [h]; rfl
theorem s_yes {m : List (Option Int)} {k : Nat} {x : Int} (o : Option Int) (h : m[k]? = some (some x)) : sM m k o = m.set k o := by
  unfold sM; rw [(in_of h).2]; simp
theorem mc_some {m : List (Option Int)} {k : Nat} {c : Cl} (h : (mc m)[k]? = some (some c)) : ∃ x, m[k]? = some (some x) ∧ c = cl x := by
  rw [mc_at] at h
  cases hm : m[k]? with
  | none => rw [hm] at h; simp at h
  | some o => cases o with
    | none => rw [hm] at h; simp at h
    | some x => rw [hm] at h; simp at h; exact ⟨x, rfl, h.symm⟩
theorem mc_none {m : List (Option Int)} {k : Nat} (h : (mc m)[k]? = some none) : m[k]? = some none := by
  rw [mc_at] at h
  cases hm : m[k]? with
  | none => rw [hm] at h; simp at h
  | some o => cases o with
    | none => rfl
    | some x => rw [hm] at h; simp at h
theorem mc_lnone {m : List (Option Int)} {i : Int} (h : look (mc m) i = none) : look m i = none := by rw [mc_look] at h; simpa using h
section
variable {w0 W : World} {G0 : Nat → Prop} {A B R : Nat} {a r m : List (Option Int)} {b : List (Option Cl)} {bs : List (Nat × Obj)}
theorem Z3.putA (h : Z3 w0 G0 W A B R a b r bs) (c : Int) : Calls Try.prog 14 #[.pointer (some ⟨A, 0, none⟩), .int .i64 c] W fun x W' => x = .returned (.tuple #[.int .i64 (pI a), .int .i64 (pE a)]) ∧ Z3 w0 G0 W' A B R (pM a c) b r bs := by
  obtain ⟨FA, FB, FR, h3, hb, hE⟩ := h
  refine (putI_any W FA A a h3.hA c).mono ?_
  rintro x W' ⟨hy, hn⟩
  rcases Nat.lt_or_eq_of_le (ff_le a) with hl | hl
  · obtain ⟨rfl, F', hT, hx⟩ := hy hl
    obtain ⟨e1, e2, e3⟩ := pos_put c hl
    rw [e1, e2, e3]; exact ⟨rfl, Z3.stepA h3 hb hE hT hx⟩
  · obtain ⟨rfl, hT, hx⟩ := hn hl
    obtain ⟨e1, e2, e3⟩ := neg_put c hl
    rw [e1, e2, e3]; exact ⟨rfl, Z3.stepA h3 hb hE hT hx⟩
theorem Z3.putB (h : Z3 w0 G0 W A B R a (mc m) r bs) (c : Int) : Calls Try.prog 24 #[.pointer (some ⟨B, 0, none⟩), (cl c).val] W fun x W' => x = .returned (.tuple #[.int .i64 (pI m), .int .i64 (pE m)]) ∧ Z3 w0 G0 W' A B R a (mc (pM m c)) r bs := by
  obtain ⟨FA, FB, FR, h3, hb, hE⟩ := h
  refine (putC_any W FB B _ h3.hB (cl c)).mono ?_
  rw [mc_ff, mc_len]
  rintro x W' ⟨hy, hn⟩
  rcases Nat.lt_or_eq_of_le (ff_le m) with hl | hl
  · obtain ⟨rfl, F', hT, hx⟩ := hy hl
    obtain ⟨e1, e2, e3⟩ := pos_put c hl
    rw [e1, e2, e3]; exact ⟨rfl, Z3.stepB h3 hb hE (by rw [← mc_set]; exact hT) hx⟩
  · obtain ⟨rfl, hT, hx⟩ := hn hl
    obtain ⟨e1, e2, e3⟩ := neg_put c hl
    rw [e1, e2, e3]; exact ⟨rfl, Z3.stepB h3 hb hE hT hx⟩
theorem Z3.putR (h : Z3 w0 G0 W A B R a b r bs) (c : Int) : Calls Try.prog 25 #[.pointer (some ⟨R, 0, none⟩), .int .i64 c] W fun x W' => x = .returned (.tuple #[.int .i64 (pI r), .int .i64 (pE r)]) ∧ Z3 w0 G0 W' A B R a b (pM r c) bs := by
  obtain ⟨FA, FB, FR, h3, hb, hE⟩ := h
  refine (putR_any W FR R r h3.hR c).mono ?_
  rintro x W' ⟨hy, hn⟩
  rcases Nat.lt_or_eq_of_le (ff_le r) with hl | hl
  · obtain ⟨rfl, hT, hx⟩ := hy hl
    obtain ⟨e1, e2, e3⟩ := pos_put c hl
    rw [e1, e2, e3]; exact ⟨rfl, Z3.stepR h3 hb hE hT hx⟩
  · obtain ⟨rfl, hT, hx⟩ := hn hl
    obtain ⟨e1, e2, e3⟩ := neg_put c hl
    rw [e1, e2, e3]; exact ⟨rfl, Z3.stepR h3 hb hE hT hx⟩
theorem Z3.atA (h : Z3 w0 G0 W A B R a b r bs) (i c : Int) : Calls Try.prog 26 #[.pointer (some ⟨A, 0, none⟩), .int .i64 i, .int .i64 c] W fun x W' => x = .returned (.int .i64 (aE a i)) ∧ Z3 w0 G0 W' A B R (aM a i c) b r bs := by
  obtain ⟨FA, FB, FR, h3, hb, hE⟩ := h
  refine (putAtI_any W FA A a h3.hA i c).mono ?_
  rintro x W' ⟨v, m', F', rfl, hT, hx, ⟨h1, rfl, rfl⟩ | ⟨k, y, rfl, h1, rfl, rfl⟩ | ⟨k, rfl, h1, rfl, rfl⟩⟩
  · obtain ⟨e1, e2⟩ := at_out c h1; rw [e1, e2]; exact ⟨rfl, Z3.stepA h3 hb hE hT hx⟩
  · obtain ⟨e1, e2⟩ := at_held c h1; rw [e1, e2]; exact ⟨rfl, Z3.stepA h3 hb hE hT hx⟩
  · obtain ⟨e1, e2⟩ := at_free c h1; rw [e1, e2]; exact ⟨rfl, Z3.stepA h3 hb hE hT hx⟩
theorem Z3.atB (h : Z3 w0 G0 W A B R a (mc m) r bs) (i c : Int) : Calls Try.prog 27 #[.pointer (some ⟨B, 0, none⟩), .int .i64 i, (cl c).val] W fun x W' => x = .returned (.int .i64 (aE m i)) ∧ Z3 w0 G0 W' A B R a (mc (aM m i c)) r bs := by
  obtain ⟨FA, FB, FR, h3, hb, hE⟩ := h
  refine (putAtC_any W FB B _ h3.hB i (cl c)).mono ?_
  rw [mc_len]
  rintro x W' ⟨v, m', F', rfl, hT, hx, ⟨h1, rfl, rfl⟩ | ⟨k, y, rfl, h1, rfl, rfl⟩ | ⟨k, rfl, h1, rfl, rfl⟩⟩
  · obtain ⟨e1, e2⟩ := at_out c h1; rw [e1, e2]; exact ⟨rfl, Z3.stepB h3 hb hE hT hx⟩
  · obtain ⟨x, h1, _⟩ := mc_some h1
    obtain ⟨e1, e2⟩ := at_held c h1; rw [e1, e2]; exact ⟨rfl, Z3.stepB h3 hb hE hT hx⟩
  · obtain ⟨e1, e2⟩ := at_free c (mc_none h1); rw [e1, e2]; exact ⟨rfl, Z3.stepB h3 hb hE (by rw [← mc_set]; exact hT) hx⟩
theorem Z3.atR (h : Z3 w0 G0 W A B R a b r bs) (i c : Int) : Calls Try.prog 28 #[.pointer (some ⟨R, 0, none⟩), .int .i64 i, .int .i64 c] W fun x W' => x = .returned (.int .i64 (aE r i)) ∧ Z3 w0 G0 W' A B R a b (aM r i c) bs := by
  obtain ⟨FA, FB, FR, h3, hb, hE⟩ := h
  refine (putAtR_any W FR R r h3.hR i c).mono ?_
  rintro x W' ⟨v, m', rfl, hT, hx, ⟨h1, rfl, rfl⟩ | ⟨k, y, rfl, h1, rfl, rfl⟩ | ⟨k, rfl, h1, rfl, rfl⟩⟩
  · obtain ⟨e1, e2⟩ := at_out c h1; rw [e1, e2]; exact ⟨rfl, Z3.stepR h3 hb hE hT hx⟩
  · obtain ⟨e1, e2⟩ := at_held c h1; rw [e1, e2]; exact ⟨rfl, Z3.stepR h3 hb hE hT hx⟩
  · obtain ⟨e1, e2⟩ := at_free c h1; rw [e1, e2]; exact ⟨rfl, Z3.stepR h3 hb hE hT hx⟩
theorem Z3.setA (h : Z3 w0 G0 W A B R a b r bs) (i c : Int) : Calls Try.prog 29 #[.pointer (some ⟨A, 0, none⟩), .int .i64 i, .int .i64 c] W fun x W' => x = .returned (.bool (look a i).isSome) ∧ Z3 w0 G0 W' A B R (sM a i (some c)) b r bs := by
  obtain ⟨FA, FB, FR, h3, hb, hE⟩ := h
  refine (setB_any W FA A a h3.hA i c).mono ?_
  rintro x W' ⟨m', rfl, hT, hx, ⟨h1, rfl⟩ | ⟨k, y, rfl, h1, rfl⟩⟩
  · rw [s_no _ h1]; exact ⟨rfl, Z3.stepA h3 hb hE hT hx⟩
  · rw [s_yes _ h1]; exact ⟨rfl, Z3.stepA h3 hb hE hT hx⟩
theorem Z3.setB (h : Z3 w0 G0 W A B R a (mc m) r bs) (i c : Int) : Calls Try.prog 30 #[.pointer (some ⟨B, 0, none⟩), .int .i64 i, (cl c).val] W fun x W' => x = .returned (.bool (look m i).isSome) ∧ Z3 w0 G0 W' A B R a (mc (sM m i (some c))) r bs := by
  obtain ⟨FA, FB, FR, h3, hb, hE⟩ := h
  refine (setC_any W FB B _ h3.hB i (cl c)).mono ?_
  rintro x W' ⟨m', rfl, hT, hx, ⟨h1, rfl⟩ | ⟨k, y, rfl, h1, rfl⟩⟩
  · rw [s_no _ (mc_lnone h1)]; exact ⟨by rw [mc_look]; simp, Z3.stepB h3 hb hE hT hx⟩
  · obtain ⟨x, h1, _⟩ := mc_some h1
    rw [s_yes _ h1]; exact ⟨by rw [mc_look]; simp, Z3.stepB h3 hb hE (by rw [← mc_set]; exact hT) hx⟩
theorem Z3.setR (h : Z3 w0 G0 W A B R a b r bs) (i c : Int) : Calls Try.prog 31 #[.pointer (some ⟨R, 0, none⟩), .int .i64 i, .int .i64 c] W fun x W' => x = .returned (.bool (look r i).isSome) ∧ Z3 w0 G0 W' A B R a b (sM r i (some c)) bs := by
  obtain ⟨FA, FB, FR, h3, hb, hE⟩ := h
  refine (setR_any W FR R r h3.hR i c).mono ?_
  rintro x W' ⟨m', rfl, hT, hx, ⟨h1, rfl⟩ | ⟨k, y, rfl, h1, rfl⟩⟩
  · rw [s_no _ h1]; exact ⟨rfl, Z3.stepR h3 hb hE hT hx⟩
  · rw [s_yes _ h1]; exact ⟨rfl, Z3.stepR h3 hb hE hT hx⟩
theorem Z3.getA (h : Z3 w0 G0 W A B R a b r bs) (i : Int) : Calls Try.prog 15 #[.pointer (some ⟨A, 0, none⟩), .int .i64 i] W fun x W' => x = .returned (.tuple #[.int .i64 ((look a i).getD 0), .bool (look a i).isSome]) ∧ W' = W := by
  obtain ⟨FA, FB, FR, h3, hb, hE⟩ := h; exact getI_any W FA A a h3.hA i
theorem Z3.getB (h : Z3 w0 G0 W A B R a (mc m) r bs) (i : Int) : Calls Try.prog 32 #[.pointer (some ⟨B, 0, none⟩), .int .i64 i] W fun x W' => x = .returned (.tuple #[(((look m i).map cl).getD Cl.zero).val, .bool (look m i).isSome]) ∧ Z3 w0 G0 W' A B R a (mc m) r bs := by
  have h' := h
  obtain ⟨FA, FB, FR, h3, hb, hE⟩ := h
  refine (getC_any W FB B _ h3.hB i).mono ?_
  rintro x W' ⟨rfl, hx⟩
  rw [mc_look]
  exact ⟨by simp, h'.below hx⟩
theorem Z3.getR (h : Z3 w0 G0 W A B R a b r bs) (i : Int) : Calls Try.prog 33 #[.pointer (some ⟨R, 0, none⟩), .int .i64 i] W fun x W' => x = .returned (.tuple #[.int .i64 ((look r i).getD 0), .bool (look r i).isSome]) ∧ W' = W := by
  obtain ⟨FA, FB, FR, h3, hb, hE⟩ := h; exact getR_any W FR R r h3.hR i
theorem Z3.dropB (h : Z3 w0 G0 W A B R a (mc m) r bs) (i : Int) : Calls Try.prog 36 #[.pointer (some ⟨B, 0, none⟩), .int .i64 i] W fun x W' => x = .returned (.tuple #[(((look m i).map cl).getD Cl.zero).val, .bool (look m i).isSome]) ∧ Z3 w0 G0 W' A B R a (mc (sM m i none)) r bs := by
  obtain ⟨FA, FB, FR, h3, hb, hE⟩ := h
  refine (dropC_any W FB B _ h3.hB i).mono ?_
  rintro x W' ⟨v, m', rfl, hT, hx, ⟨h1, rfl, rfl⟩ | ⟨k, y, rfl, h1, rfl, rfl⟩⟩
  · have h2 := mc_lnone h1
    rw [s_no _ h2, h2]; exact ⟨rfl, Z3.stepB h3 hb hE hT hx⟩
  · obtain ⟨x, h2, rfl⟩ := mc_some h1
    rw [s_yes _ h2, (in_of h2).2]; exact ⟨rfl, Z3.stepB h3 hb hE (by rw [← mc_set]; exact hT) hx⟩
theorem Z3.dropA (h : Z3 w0 G0 W A B R a b r bs) (i : Int) : Calls Try.prog 35 #[.pointer (some ⟨A, 0, none⟩), .int .i64 i] W fun x W' => x = .returned (.tuple #[.int .i64 ((look a i).getD 0), .bool (look a i).isSome]) ∧ Z3 w0 G0 W' A B R (sM a i none) b r bs := by
  obtain ⟨FA, FB, FR, h3, hb, hE⟩ := h
  refine (dropV_any W FA A a h3.hA i).mono ?_
  rintro x W' ⟨m', rfl, hT, hx, ⟨h1, rfl⟩ | ⟨k, y, rfl, h1, rfl⟩⟩
  · rw [s_no _ h1]; exact ⟨rfl, Z3.stepA h3 hb hE hT hx⟩
  · rw [s_yes _ h1]; exact ⟨rfl, Z3.stepA h3 hb hE hT hx⟩
theorem Z3.dropR (h : Z3 w0 G0 W A B R a b r bs) (i : Int) : Calls Try.prog 37 #[.pointer (some ⟨R, 0, none⟩), .int .i64 i] W fun x W' => x = .returned (.tuple #[.int .i64 ((look r i).getD 0), .bool (look r i).isSome]) ∧ Z3 w0 G0 W' A B R a b (sM r i none) bs := by
  obtain ⟨FA, FB, FR, h3, hb, hE⟩ := h
  refine (dropR_any W FR R r h3.hR i).mono ?_
  rintro x W' ⟨m', rfl, hT, hx, ⟨h1, rfl⟩ | ⟨k, y, rfl, h1, rfl⟩⟩
  · rw [s_no _ h1]; exact ⟨rfl, Z3.stepR h3 hb hE hT hx⟩
  · rw [s_yes _ h1]; exact ⟨rfl, Z3.stepR h3 hb hE hT hx⟩
theorem Z3.nextA (h : Z3 w0 G0 W A B R a b r bs) (i : Int) : Calls Try.prog 39 #[.pointer (some ⟨A, 0, none⟩), .int .i64 i] W fun x W' => ∃ q, x = .returned (.int .i64 q) ∧ At a i.toNat q ∧ W' = W := by
  obtain ⟨FA, FB, FR, h3, hb, hE⟩ := h; exact nextI_at W FA A a h3.hA i
theorem Z3.nextB (h : Z3 w0 G0 W A B R a (mc m) r bs) (i : Int) : Calls Try.prog 40 #[.pointer (some ⟨B, 0, none⟩), .int .i64 i] W fun x W' => ∃ q, x = .returned (.int .i64 q) ∧ At m i.toNat q ∧ W' = W := by
  obtain ⟨FA, FB, FR, h3, hb, hE⟩ := h
  refine (nextC_at W FB B _ h3.hB i).mono ?_
  rintro x W' ⟨q, rfl, hq, rfl⟩
  refine ⟨q, rfl, ?_, rfl⟩
  rcases hq with ⟨k, rfl, hk⟩ | ⟨rfl, hk⟩
  · exact .inl ⟨k, rfl, (mc_next _ _ _).1 hk⟩
  · exact .inr ⟨rfl, (mc_nonext _ _).1 hk⟩
theorem Z3.nextR (h : Z3 w0 G0 W A B R a b r bs) (i : Int) : Calls Try.prog 38 #[.pointer (some ⟨R, 0, none⟩), .int .i64 i] W fun x W' => ∃ q, x = .returned (.int .i64 q) ∧ At r i.toNat q ∧ W' = W := by
  obtain ⟨FA, FB, FR, h3, hb, hE⟩ := h
  refine (nextR_any W FR R r h3.hR i).mono ?_
  rintro x W' ⟨rfl, ⟨k, rfl, hk⟩ | ⟨rfl, hk⟩⟩
  · exact ⟨k, rfl, .inl ⟨k, rfl, hk⟩, rfl⟩
  · exact ⟨-1, rfl, .inr ⟨rfl, hk⟩, rfl⟩
theorem at_one {s : Nat} {q q' : Int} (h : At m s q) (h' : At m s q') : q' = q := by
  rcases h with ⟨k, rfl, hk⟩ | ⟨rfl, hk⟩ <;> rcases h' with ⟨k', rfl, hk'⟩ | ⟨rfl, hk'⟩
  · rw [isNext_one hk hk']
  · exact (next_not hk hk').elim
  · exact (next_not hk' hk).elim
  · rfl
theorem Z3.findA (h : Z3 w0 G0 W A B R a b r bs) (v : Int) : Calls Try.prog 42 #[.pointer (some ⟨A, 0, none⟩), .int .i64 v] W fun x W' => ∃ q, x = .returned (.int .i64 q) ∧ Found a v q ∧ Below W.heap.size W W' := by
  obtain ⟨FA, FB, FR, h3, hb, hE⟩ := h; exact findI_any W FA A a h3.hA v
theorem Z3.findB (h : Z3 w0 G0 W A B R a (mc m) r bs) (v : Int) : Calls Try.prog 43 #[.pointer (some ⟨B, 0, none⟩), (cl v).val] W fun x W' => ∃ q, x = .returned (.int .i64 q) ∧ Found m v q ∧ Below W.heap.size W W' := by
  obtain ⟨FA, FB, FR, h3, hb, hE⟩ := h
  refine (findC_any W FB B _ h3.hB (cl v)).mono ?_
  rintro x W' ⟨q, rfl, hq, hx⟩
  exact ⟨q, rfl, (mc_found _ _ _).1 hq, hx⟩
theorem Z3.findR (h : Z3 w0 G0 W A B R a b r bs) (v : Int) : Calls Try.prog 41 #[.pointer (some ⟨R, 0, none⟩), .int .i64 v] W fun x W' => ∃ q, x = .returned (.int .i64 q) ∧ Found r v q ∧ W' = W := by
  obtain ⟨FA, FB, FR, h3, hb, hE⟩ := h; exact findR_any W FR R r h3.hR v
theorem Z3.clearA (h : Z3 w0 G0 W A B R a b r bs) : Calls Try.prog 44 #[.pointer (some ⟨A, 0, none⟩)] W fun x W' => x = .returned (.tuple #[]) ∧ Z3 w0 G0 W' A B R (List.replicate a.length none) b r bs := by
  obtain ⟨FA, FB, FR, h3, hb, hE⟩ := h
  refine (clearI_any W FA A a h3.hA).mono ?_
  rintro x W' ⟨rfl, hT, hx⟩
  exact ⟨rfl, Z3.stepA h3 hb hE hT hx⟩
theorem Z3.clearB (h : Z3 w0 G0 W A B R a (mc m) r bs) : Calls Try.prog 45 #[.pointer (some ⟨B, 0, none⟩)] W fun x W' => x = .returned (.tuple #[]) ∧ Z3 w0 G0 W' A B R a (mc (List.replicate m.length none)) r bs := by
  obtain ⟨FA, FB, FR, h3, hb, hE⟩ := h
  refine (clearC_any W FB B _ h3.hB).mono ?_
  rw [mc_len]
  rintro x W' ⟨rfl, hT, hx⟩
  exact ⟨rfl, Z3.stepB h3 hb hE (by rw [← mc_rep]; exact hT) hx⟩
theorem Z3.clearR (h : Z3 w0 G0 W A B R a b r bs) : Calls Try.prog 46 #[.pointer (some ⟨R, 0, none⟩)] W fun x W' => x = .returned (.tuple #[]) ∧ Z3 w0 G0 W' A B R a b (List.replicate r.length none) bs := by
  obtain ⟨FA, FB, FR, h3, hb, hE⟩ := h
  refine (clearR_any W FR R r h3.hR).mono ?_
  rintro x W' ⟨rfl, hT, hx⟩
  exact ⟨rfl, Z3.stepR h3 hb hE hT hx⟩
end
end Go.Proofs.Ytfjgmhghjbikfaa
