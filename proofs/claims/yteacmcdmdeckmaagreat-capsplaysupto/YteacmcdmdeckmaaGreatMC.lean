import Derived.Test.YteacmcdmdeckmaaGreatMB
namespace Go.Proofs.YteacmcdmdeckmaaGreat
open Go.RowKit

set_option maxHeartbeats 1600000 in
theorem mayR_any (w : World) (k o s r : Int) : Calls Tryz.prog 78 #[.agg #[.int .i64 k, .int .i64 o, .int .i64 s, .int .i64 r]] w fun e w' => e = .returned (.bool (decide (mb k o s r))) ∧ Below w.heap.size w w' := by
  have hb := fun o => (Below.refl w.heap.size w).alloc (Nat.le_refl _) o
  by_cases h0 : 1 ≤ k
  · skip
    by_cases h1 : k ≤ 3
    · skip
      by_cases h2 : 0 ≤ o
      · skip
        by_cases h3 : o ≤ 4611686018427387903
        · skip
          by_cases h4 : 1 ≤ s
          · skip
            by_cases h5 : s ≤ 4611686018427387903
            · skip
              by_cases h6 : 0 ≤ r
              · skip
                by_cases h7 : r ≤ 15
                · skip
                  have e : decide (mb k o s r) = true := by unfold mb; simp [h0, h1, h2, h3, h4, h5, h6, h7]
                  rw [e]
                  go_enter Tryz.func78, Tryz.ntmps78
                  go_wp2
                  go_ret
                  exact ⟨rfl, hb _⟩
                · have e : decide (mb k o s r) = false := by unfold mb; simp [h7]
                  rw [e]
                  go_enter Tryz.func78, Tryz.ntmps78
                  go_wp2
                  go_ret
                  exact ⟨rfl, hb _⟩
              · have e : decide (mb k o s r) = false := by unfold mb; simp [h6]
                rw [e]
                go_enter Tryz.func78, Tryz.ntmps78
                go_wp2
                go_ret
                exact ⟨rfl, hb _⟩
            · have e : decide (mb k o s r) = false := by unfold mb; simp [h5]
              rw [e]
              go_enter Tryz.func78, Tryz.ntmps78
              go_wp2
              go_ret
              exact ⟨rfl, hb _⟩
          · have e : decide (mb k o s r) = false := by unfold mb; simp [h4]
            rw [e]
            go_enter Tryz.func78, Tryz.ntmps78
            go_wp2
            go_ret
            exact ⟨rfl, hb _⟩
        · have e : decide (mb k o s r) = false := by unfold mb; simp [h3]
          rw [e]
          go_enter Tryz.func78, Tryz.ntmps78
          go_wp2
          go_ret
          exact ⟨rfl, hb _⟩
      · have e : decide (mb k o s r) = false := by unfold mb; simp [h2]
        rw [e]
        go_enter Tryz.func78, Tryz.ntmps78
        go_wp2
        go_ret
        exact ⟨rfl, hb _⟩
    · have e : decide (mb k o s r) = false := by unfold mb; simp [h1]
      rw [e]
      go_enter Tryz.func78, Tryz.ntmps78
      go_wp2
      go_ret
      exact ⟨rfl, hb _⟩
  · have e : decide (mb k o s r) = false := by unfold mb; simp [h0]
    rw [e]
    go_enter Tryz.func78, Tryz.ntmps78
    go_wp2
    go_ret
    exact ⟨rfl, hb _⟩
/-- a power of two -/
def pw (i : Nat) : Nat := 2 ^ i
/-- a right that is asked for and not there -/
def lacks (r q b : Nat) : Bool := decide (r / b % 2 = 1) && decide (q / b % 2 = 0)
theorem amg16 : ∀ a b : Fin 16, (bits .andNot .i64 (a.val : Int) (b.val : Int) == 0) = (!(lacks a.val b.val 1) && !(lacks a.val b.val 2) && !(lacks a.val b.val 4) && !(lacks a.val b.val 8)) := by decide +kernel
theorem amg_of {r q : Nat} (hr : r < 16) (hq : q < 16) : (bits .andNot .i64 (r : Int) (q : Int) == 0) = (!(lacks r q 1) && !(lacks r q 2) && !(lacks r q 4) && !(lacks r q 8)) := amg16 ⟨r, hr⟩ ⟨q, hq⟩
theorem wrap_div {r b d : Nat} (hr : r < 16) (hd : r / b = d) : wrap64 ((r : Int) / (b : Int)) = (d : Int) := by
  have h1 : ((r : Int) / (b : Int)) = (d : Int) := by rw [← hd]; exact (Int.natCast_ediv r b).symm
  have h2 : d ≤ r := by rw [← hd]; exact Nat.div_le_self _ _
  rw [h1]; unfold wrap64; omega
theorem tmod_two {d m : Nat} (h : d % 2 = m) : (d : Int).tmod 2 = (m : Int) := by
  rw [← h, Int.tmod_eq_emod_of_nonneg (by omega)]; omega
set_option maxRecDepth 100000 in
set_option maxHeartbeats 3200000 in
theorem amongR_any (w : World) (r q : Nat) (hr : r < 16) (hq : q < 16) : Calls Tryz.prog 48 #[.int .i64 (r : Int), .int .i64 (q : Int)] w fun x w' => x = .returned (.bool (bits .andNot .i64 (r : Int) (q : Int) == 0)) ∧ w' = w := by
  have HAm := hide (amg_of hr hq)
  have Hr := hide hr
  have Hq := hide hq
  generalize (bits .andNot .i64 (r : Int) (q : Int) == 0) = ans at HAm ⊢
  go_enter Tryz.func48, Tryz.ntmps48
  go_wp2
  go_loopw [5, 6] (fun bv x wr => ∃ i b : Nat, i ≤ 4 ∧ x = .int .i64 (i : Int) ∧ bv = .int .i64 (b : Int) ∧ b ≤ 16 ∧ Hid (b = pw i ∧ wr = w ∧ ∀ j, j < i → lacks r q (pw j) = false)) (fun _ x _ => 4 - (intOf x).toNat)
  case atStart => exact ⟨0, 1, by omega, rfl, rfl, by omega, rfl, rfl, fun j hj => by omega⟩
  case round =>
  obtain ⟨i, b, hi, rfl, rfl, hb, KK⟩ := hrel
  have hw := KK.out.2.1
  subst hw
  by_cases hlt : i < 4
  · have hd : decide ((i : Int) < 4) = true := by simp; omega
    have hbp : 0 < b := by rw [KK.out.1]; unfold pw; exact Nat.two_pow_pos i
    have hb8 : b ≤ 8 := by
      rw [KK.out.1]; unfold pw
      have : 2 ^ i ≤ 2 ^ 3 := Nat.pow_le_pow_right (by omega) (by omega)
      simpa using this
    have hb0 : ((b : Int) == 0) = false := by rw [beq_eq_false_iff_ne]; omega
    have hb00 : ¬ (b = 0) := by omega
    have e5 : IntKind.i64.wrap ((b : Int) * 2) = ((b * 2 : Nat) : Int) := by simp [IntKind.wrap, IntKind.signed, IntKind.bits]; omega
    obtain ⟨d1, hd1⟩ : ∃ d, r / b = d := ⟨_, rfl⟩
    obtain ⟨d2, hd2⟩ : ∃ d, q / b = d := ⟨_, rfl⟩
    obtain ⟨m1, hm1⟩ : ∃ m, d1 % 2 = m := ⟨_, rfl⟩
    obtain ⟨m2, hm2⟩ : ∃ m, d2 % 2 = m := ⟨_, rfl⟩
    have e1 := wrap_div hr hd1
    have e2 := tmod_two hm1
    have e3 := wrap_div hq hd2
    have e4 := tmod_two hm2
    have HM : Hid (r / b % 2 = m1 ∧ q / b % 2 = m2) := hide ⟨by rw [hd1]; exact hm1, by rw [hd2]; exact hm2⟩
    clear hm1 hm2 hd1 hd2
    have hnext : lacks r q b = false → ∀ j, j < i + 1 → lacks r q (pw j) = false := fun h j hj => by
      by_cases e : j = i
      · rw [e, ← KK.out.1]; exact h
      · exact KK.out.2.2 j (by omega)
    have Hnx := hide hnext
    have Hb2 : Hid (b * 2 = pw (i + 1)) := hide (by rw [KK.out.1]; unfold pw; rw [Nat.pow_succ])
    have Hne : Hid (lacks r q b = true → ans = false) := hide (fun h => by
      rw [KK.out.1] at h
      rw [HAm.out]
      have hi4 : i = 0 ∨ i = 1 ∨ i = 2 ∨ i = 3 := by omega
      rcases hi4 with rfl | rfl | rfl | rfl <;> (have h' : lacks r q _ = true := h; simp only [pw] at h'; simp at h'; simp [h']))
    clear hnext
    by_cases t1 : m1 = 1
    · have t1' : ((m1 : Int) == 1) = true := by simp [t1]
      by_cases t2 : m2 = 0
      · have t2' : ((m2 : Int) == 0) = true := by simp [t2]
        have HA : Hid (ans = false) := hide (Hne.out (by unfold lacks; rw [HM.out.1, HM.out.2, t1, t2]; rfl))
        have ha := HA.out
        subst ha
        clear t1 t2 hr hq KK
        go_wp2
        go_ret
        exact ⟨rfl, rfl⟩
      · have t2' : ((m2 : Int) == 0) = false := by rw [beq_eq_false_iff_ne]; omega
        have HN := hide (Hnx.out (by unfold lacks; rw [HM.out.1, HM.out.2]; simp [t2]))
        clear t1 t2 hr hq
        go_wp2
        go_roundw
        case rel => first | exact ⟨i + 1, b * 2, by omega, by go_num, by first | go_num | (simp), by omega, hide ⟨Hb2.out, by first | trivial | rfl, HN.out⟩⟩ | ((repeat apply Exists.intro); refine ⟨?_, rfl⟩; exact ⟨i + 1, b * 2, by omega, by go_num, by first | go_num | (simp), by omega, hide ⟨Hb2.out, by first | trivial | rfl, HN.out⟩⟩)
        case measure => simp [intOf]; omega
    · have t1' : ((m1 : Int) == 1) = false := by rw [beq_eq_false_iff_ne]; omega
      have HN := hide (Hnx.out (by unfold lacks; rw [HM.out.1, HM.out.2]; simp [t1]))
      clear t1 hr hq
      go_wp2
      go_roundw
      case rel => first | exact ⟨i + 1, b * 2, by omega, by go_num, by first | go_num | (simp), by omega, hide ⟨Hb2.out, by first | trivial | rfl, HN.out⟩⟩ | ((repeat apply Exists.intro); refine ⟨?_, rfl⟩; exact ⟨i + 1, b * 2, by omega, by go_num, by first | go_num | (simp), by omega, hide ⟨Hb2.out, by first | trivial | rfl, HN.out⟩⟩)
      case measure => simp [intOf]; omega
  · obtain rfl : i = 4 := by omega
    have hd : decide ((4 : Int) < 4) = false := by simp
    have ha : ans = true := by
      rw [HAm.out]
      have h0 := KK.out.2.2 0 (by omega)
      have h1 := KK.out.2.2 1 (by omega)
      have h2 := KK.out.2.2 2 (by omega)
      have h3 := KK.out.2.2 3 (by omega)
      simp only [pw] at h0 h1 h2 h3
      simp at h0 h1 h2 h3
      simp [h0, h1, h2, h3]
    subst ha
    clear hr hq
    go_wp2
    go_ret
    exact ⟨rfl, rfl⟩
section
variable {w : World} {R : Nat} {bk bk' : List (Option Lst)} {F : Nat → Prop} {v : Value} {K : List Rw}
/-- where a new one goes -/
def PlcR (bk : List (Option Lst)) (e a : Int) (v c : Int) : Prop :=
  (∃ k : Nat, k < 48 ∧ v = k ∧ c = 0 ∧ atB bk e (k : Int) = none ∧ (a < 0 → ∀ j : Nat, j < k → atB bk e (j : Int) ≠ none) ∧ (0 ≤ a → a = k)) ∨
  (v = -1 ∧ ((a < 0 ∧ c = 2 ∧ ∀ j : Nat, j < 48 → atB bk e (j : Int) ≠ none) ∨ (0 ≤ a ∧ c = 31 ∧ atB bk e a ≠ none)))
set_option maxHeartbeats 1600000 in
theorem placeR_any (h : RbAt w R v bk K) (ha : Ag bk K) (hp : P8 bk) (e a : Int) (h48 : a < 48) : Calls Tryz.prog 79 #[tp R, .int .i64 e, .int .i64 a] w fun x w' => ∃ u c : Int, x = .returned (.tuple #[.int .i64 u, .int .i64 c]) ∧ PlcR bk e a u c ∧ Below w.heap.size w w' := by
  have H1 := hide (atb_any h ha hp e a)
  have H2 := hide (freeR_any h ha hp e)
  clear h ha hp
  by_cases h0 : 0 ≤ a
  · have hd : decide (0 ≤ a) = true := by simp [h0]
    have H0 := hide h0
    obtain ⟨k, hk⟩ : ∃ k : Nat, a = (k : Int) := ⟨a.toNat, by omega⟩
    have Hk := hide hk
    clear h0 hk
    go_enter Tryz.func79, Tryz.ntmps79
    go_wp2_with fail
    refine H1.out.mono ?_
    rintro e1 w2 ⟨hb2, ⟨i, a1, b1, r, rfl, -, -, -, hr⟩ | ⟨rfl, hn⟩⟩
    · have hd2 : decide ((0 : Int) ≤ (i : Int)) = true := by simp
      have HB := hide (And.intro hb2 hr)
      clear hb2 hr H1 H2
      go_wp2
      go_ret2
      exact ⟨_, _, rfl, .inr ⟨rfl, .inr ⟨H0.out, rfl, by rw [HB.out.2]; exact fun h => by cases h⟩⟩, HB.out.1⟩
    · have HB := hide (And.intro hb2 hn)
      clear hb2 hn H1 H2
      go_wp2
      go_ret2
      refine ⟨_, _, rfl, .inl ⟨k, by have := Hk.out; omega, Hk.out, rfl, by rw [← Hk.out]; exact HB.out.2, fun h => by have := H0.out; omega, fun _ => Hk.out⟩, HB.out.1⟩
  · have hd : decide (0 ≤ a) = false := by simp; omega
    have H0 : Hid (a < 0) := hide (by omega)
    clear h0
    go_enter Tryz.func79, Tryz.ntmps79
    go_wp2_with fail
    refine H2.out.mono ?_
    rintro e1 w2 ⟨hb2, ⟨k, hk, rfl, hn, hj⟩ | ⟨rfl, hn⟩⟩
    · have hd2 : decide ((k : Int) < 0) = false := by simp
      have HB := hide (And.intro hb2 (And.intro hn hj))
      clear hb2 hn hj H1 H2
      go_wp2
      go_ret2
      exact ⟨_, _, rfl, .inl ⟨k, hk, rfl, rfl, HB.out.2.1, fun _ => HB.out.2.2, fun h => by have := H0.out; omega⟩, HB.out.1⟩
    · have HB := hide (And.intro hb2 hn)
      clear hb2 hn H1 H2
      go_wp2
      go_ret2
      exact ⟨_, _, rfl, .inr ⟨rfl, .inl ⟨H0.out, rfl, HB.out.2⟩⟩, HB.out.1⟩
/-- the program's laying and the document's place are one -/
theorem plc_lay {i : Nat} {l l' : Lst} {a v c u d : Int} {r : Rc} (hl : bk[i]? = some (some l)) (h48 : l.length = 48) (ha : a < 48) (h : LayR l a r v c l') (hp : PlcR bk (i : Int) a u d) : u = v ∧ d = c ∧
    ((c = 0 ∧ ∃ k : Nat, v = k ∧ atB bk (i : Int) (k : Int) = none ∧ Shape bk (bk.set i (some l')) ∧ ∀ x y : Nat, atB (bk.set i (some l')) (x : Int) (y : Int) = if x = i ∧ y = k then some r else atB bk (x : Int) (y : Int)) ∨ (c ≠ 0 ∧ v = -1 ∧ bk.set i (some l') = bk)) := by
  rcases lay_view hl h48 h with ⟨k, hk, rfl, rfl, h1, h2, h3, h4, h5⟩ | ⟨rfl, hc, h1, h2⟩
  · rcases hp with ⟨j, hj, rfl, rfl, p1, p2, p3⟩ | ⟨rfl, ⟨q1, _, q2⟩ | ⟨q1, _, q2⟩⟩
    · have hkj : j = k := by
        by_cases h0 : a < 0
        · rcases Nat.lt_trichotomy j k with hlt | hlt | hlt
          · exact absurd p1 (h2 h0 j hlt)
          · exact hlt
          · exact absurd h1 (p2 h0 k hlt)
        · have := h3 (by omega); have := p3 (by omega); omega
      subst hkj
      exact ⟨rfl, rfl, .inl ⟨rfl, j, rfl, h1, h4, h5⟩⟩
    · exact absurd h1 (q2 k hk)
    · have := h3 q1
      rw [this] at q2
      exact absurd h1 q2
  · have hc2 : (a < 0 ∧ c = 2) ∨ (0 ≤ a ∧ c = 31) := by
      rcases h with ⟨k, _, _, h9, _⟩ | ⟨_, _, ⟨q1, _, q2⟩ | ⟨q1, q2, _⟩ | ⟨q1, _, q2⟩⟩
      · omega
      · exact .inl ⟨q1, q2⟩
      · rw [h48] at q2; omega
      · exact .inr ⟨q1, q2⟩
    rcases hp with ⟨j, hj, rfl, rfl, p1, p2, p3⟩ | ⟨rfl, ⟨q1, rfl, q2⟩ | ⟨q1, rfl, q2⟩⟩
    · rcases h2 with ⟨z1, z2⟩ | ⟨z1, z2⟩ | ⟨z1, x, z2⟩
      · exact absurd p1 (z2 j hj)
      · omega
      · rw [p3 z1, p1] at z2; cases z2
    · refine ⟨rfl, by omega, .inr ⟨hc, rfl, h1⟩⟩
    · refine ⟨rfl, by omega, .inr ⟨hc, rfl, h1⟩⟩
theorem flg_shape (h : Shape bk bk') : flg bk' = flg bk := by
  unfold flg
  apply List.map_congr_left
  intro x _
  rw [h (x : Int)]
end
end Go.Proofs.YteacmcdmdeckmaaGreat

namespace Go.Proofs.YteacmcdmdeckmaaGreat
open Go.RowKit

section
variable {w : World} {R : Nat} {bk bk' : List (Option Lst)} {F : Nat → Prop}
theorem RbA.below {w' : World} (h : RbA R bk w F) (hb : Below w.heap.size w w') : RbA R bk w' F :=
  (good_rb R bk).keep h hb.size (fun b hf => hb.block b ((good_rb R bk).lt h b hf))
/-- a block beside the book stays -/
theorem Ext.keepB {F' : Nat → Prop} {w' : World} (h : Ext F w F' w') {b : Nat} {o : Obj} (hb : w.heap[b]? = some o) (hf : ¬ F b) : w'.heap[b]? = some o := by
  rw [h.mod.block b (Array.getElem?_eq_some_iff.1 hb).1 hf]; exact hb
structure Cap4 (W : World) (B : Nat) (k o s r : Int) : Prop where
  c0 : W.cell? ⟨B, 0, none⟩ = some (.int .i64 k)
  c1 : W.cell? ⟨B, 1, none⟩ = some (.int .i64 o)
  c2 : W.cell? ⟨B, 2, none⟩ = some (.int .i64 s)
  c3 : W.cell? ⟨B, 3, none⟩ = some (.int .i64 r)
theorem cap4_of {W : World} {B : Nat} {k o s r : Int} (h : W.heap[B]? = some (.cells #[.int .i64 k, .int .i64 o, .int .i64 s, .int .i64 r] 28 (0, 0))) : Cap4 W B k o s r :=
  ⟨by rw [cell_of_row _ _ _ _ _ _ h]; rfl, by rw [cell_of_row _ _ _ _ _ _ h]; rfl, by rw [cell_of_row _ _ _ _ _ _ h]; rfl, by rw [cell_of_row _ _ _ _ _ _ h]; rfl⟩
set_option maxRecDepth 100000 in
set_option maxHeartbeats 3200000 in
theorem mintR_any (h : RbA R bk w F) (hw : Wb bk) (e a k o s r v c : Int) (hm : MintR bk e a k o s r v c bk') :
    Calls Tryz.prog 54 #[tp R, .int .i64 e, .int .i64 a, .agg #[.int .i64 k, .int .i64 o, .int .i64 s, .int .i64 r]] w fun x w' => x = .returned (.tuple #[.int .i64 v, .int .i64 c]) ∧ ∃ F', RbA R bk' w' F' ∧ Ext F w F' w' := by
  have hb0 := (Below.refl w.heap.size w).alloc (Nat.le_refl _) (.cells #[.int .i64 k, .int .i64 o, .int .i64 s, .int .i64 r] 28)
  have hbox : (w.alloc (.cells #[.int .i64 k, .int .i64 o, .int .i64 s, .int .i64 r] 28)).heap[w.heap.size]? = some (.cells #[.int .i64 k, .int .i64 o, .int .i64 s, .int .i64 r] 28 (0, 0)) := heap_alloc_last _ _
  have h1 := h.below hb0
  have HX0 : Hid (Ext F w F (w.alloc (.cells #[.int .i64 k, .int .i64 o, .int .i64 s, .int .i64 r] 28))) := hide (Ext.of_below hb0)
  have HR1 := hide h1
  have HBx := hide hbox
  have HnF : Hid (¬ F w.heap.size) := hide (fun hf => by have := (good_rb R bk).lt h _ hf; omega)
  obtain ⟨x0, x1, x2, x3⟩ := cap4_of hbox
  have HM := hide hm
  have HW := hide hw
  have HMy := hide (fun W => mayR_any W k o s r)
  have HH : Hid (∀ W, RbA R bk W F → Calls Tryz.prog 35 #[tp R, .int .i64 e] W fun x w' => x = .returned (.bool (look bk e).isSome) ∧ w' = W) := hide (fun W hW => by obtain ⟨rv, K, hr, hag, he⟩ := hW; exact hasR_any hr hw e)
  clear h hb0 hbox h1 hw
  go_enter Tryz.func54, Tryz.ntmps54
  go_upto_region 1 with fail
  generalize w.alloc (.cells #[.int .i64 k, .int .i64 o, .int .i64 s, .int .i64 r] 28) = w1 at *
  go_wp2_with fail
  refine (HH.out _ HR1.out).mono ?_
  rintro e1 w2 ⟨rfl, rfl⟩
  clear HH
  rcases hm with ⟨hl, rfl, rfl, rfl⟩ | ⟨⟨l, hl⟩, hbad, rfl, rfl, rfl⟩ | ⟨i, l, l', rfl, hl, haa, hmb, hlay, rfl⟩
  · rw [hl]
    clear hl HM
    go_wp2
    go_ret2
    exact ⟨rfl, F, HR1.out, HX0.out⟩
  · rw [hl]
    by_cases hq : -1 ≤ a
    · have hd : decide (a < -1) = false := by simp; omega
      by_cases hq2 : a < 48
      · have hd2 : decide (48 ≤ a) = false := by simp; omega
        have hmb : decide (mb k o s r) = false := by
          rw [decide_eq_false_iff_not]
          rcases hbad with h | h
          · exact absurd ⟨hq, hq2⟩ h
          · exact h
        rw [hmb] at HMy
        clear hl hbad hq hq2 hmb HM
        go_wp2_with fail
        refine (HMy.out _).mono ?_
        rintro e1 w3 ⟨rfl, hb3⟩
        have HE : Hid (RbA R bk' w3 F ∧ Ext F w F w3) := hide ⟨HR1.out.below hb3, HX0.out.trans (Ext.of_below hb3)⟩
        clear hb3 HMy x0 x1 x2 x3
        go_wp2
        go_ret2
        exact ⟨rfl, F, HE.out.1, HE.out.2⟩
      · have hd2 : decide (48 ≤ a) = true := by simp; omega
        clear hl hbad hq hq2 HM
        go_wp2
        go_ret2
        exact ⟨rfl, F, HR1.out, HX0.out⟩
    · have hd : decide (a < -1) = true := by simp; omega
      clear hl hbad hq HM
      go_wp2
      go_ret2
      exact ⟨rfl, F, HR1.out, HX0.out⟩
  · have hlk : look bk (i : Int) = some l := by rw [look_nat, hl]; rfl
    rw [hlk]
    have hd : decide (a < -1) = false := by simp; omega
    have hd2 : decide (48 ≤ a) = false := by simp; omega
    have hmb' : decide (mb k o s r) = true := by simp [hmb]
    rw [hmb'] at HMy
    have HL := hide (And.intro hl (And.intro haa hlay))
    have h48 : a < 48 := haa.2
    clear hl haa hmb hlay HM hlk hmb'
    go_wp2_with fail
    refine (HMy.out _).mono ?_
    rintro e1 w3 ⟨rfl, hb3⟩
    have HR3 := hide (HR1.out.below hb3)
    have HX3 := hide (HX0.out.trans (Ext.of_below hb3))
    have HB3 : Hid (w3.heap[w.heap.size]? = some (.cells #[.int .i64 k, .int .i64 o, .int .i64 s, .int .i64 r] 28 (0, 0))) := hide (by rw [hb3.block _ (Array.getElem?_eq_some_iff.1 HBx.out).1]; exact HBx.out)
    obtain ⟨rv, K, hr3, hag, he3⟩ := HR3.out
    have HP := hide (placeR_any hr3 hag HW.out.p8 (i : Int) a h48)
    clear hb3 HMy hr3 hag he3 HX0 x0 x1 x2 x3
    go_wp2_with fail
    refine HP.out.mono ?_
    rintro e1 w4 ⟨u, d, rfl, hplc, hb4⟩
    obtain ⟨e1, e2, hres⟩ := plc_lay HL.out.1 (HW.out.l48 _ _ HL.out.1) h48 HL.out.2.2 hplc
    subst e1 e2
    have HR4 := hide (HR3.out.below hb4)
    have HX4 := hide (HX3.out.trans (Ext.of_below hb4))
    have HB4 : Hid (w4.heap[w.heap.size]? = some (.cells #[.int .i64 k, .int .i64 o, .int .i64 s, .int .i64 r] 28 (0, 0))) := hide (by rw [hb4.block _ (Array.getElem?_eq_some_iff.1 HB3.out).1]; exact HB3.out)
    clear hplc hb4 HP HR3 HX3 HB3
    rcases hres with ⟨rfl, kk, rfl, hfree, hsh, hvw⟩ | ⟨hc, rfl, hbk⟩
    · have HLy : Hid (∀ W, RbA R bk W F → Calls Tryz.prog 80 #[tp R, .agg #[.int .i64 (i : Int), .int .i64 (kk : Int), .int .i64 k, .int .i64 o, .int .i64 s, .int .i64 r, .int .i64 (-1), .int .i64 (-1)]] W fun x w' => x = .returned (.tuple #[]) ∧ ∃ F', RbA R (bk.set i (some l')) w' F' ∧ Ext F W F' w') := hide (fun W hW => layD_any hW HW.out i kk ⟨k, o, s, r, -1, -1⟩ hfree (flg_shape hsh) hvw)
      clear hfree hsh hvw
      go_upto_region 8 with fail
      obtain ⟨wd, hwd⟩ : ∃ W, W = w4.drew := ⟨_, rfl⟩
      have hbd : Below w4.heap.size w4 wd := by rw [hwd]; exact ⟨rfl, rfl, rfl, Nat.le_refl _, fun _ _ => rfl⟩
      have HRd := hide (HR4.out.below hbd)
      have HXd := hide (HX4.out.trans (Ext.of_below hbd))
      have HBd : Hid (wd.heap[w.heap.size]? = some (.cells #[.int .i64 k, .int .i64 o, .int .i64 s, .int .i64 r] 28 (0, 0))) := hide (by rw [hwd]; exact HB4.out)
      have HS : Hid (Cap4 wd w.heap.size k o s r) := hide (cap4_of HBd.out)
      refine wp_region_held_drew (S := fun W => Cap4 W w.heap.size k o s r) (by kernel_rfl) (by rw [← hwd]; exact HS.out) (fun _ => ?_)
      rw [← hwd]
      clear hwd hbd
      refine hd_take 0 (o := ⟨some 37, _, _, _, _, _⟩) (tp R) (by kernel_rfl) (by kernel_rfl) (by kernel_rfl) rfl (by rfl) (fun W hSw => by go_simp) (fun _ _ _ h => h) HS.out ?_
      simp only [Act.put, List.setIfInBounds_toArray, List.set_cons_zero, List.set_cons_succ]
      refine hd_take 1 (o := ⟨some 38, _, _, _, _, _⟩) (.int .i64 (i : Int)) (by kernel_rfl) (by kernel_rfl) (by kernel_rfl) rfl (by rfl) (fun W hSw => by go_simp) (fun _ _ _ h => h) HS.out ?_
      simp only [Act.put, List.setIfInBounds_toArray, List.set_cons_zero, List.set_cons_succ]
      refine hd_take 2 (o := ⟨some 39, _, _, _, _, _⟩) (.int .i64 (kk : Int)) (by kernel_rfl) (by kernel_rfl) (by kernel_rfl) rfl (by rfl) (fun W hSw => by go_simp) (fun _ _ _ h => h) HS.out ?_
      simp only [Act.put, List.setIfInBounds_toArray, List.set_cons_zero, List.set_cons_succ]
      refine hd_take 3 (o := ⟨some 40, _, _, _, _, _⟩) (.agg #[.int .i64 (i : Int), .int .i64 (kk : Int)]) (by kernel_rfl) (by kernel_rfl) (by kernel_rfl) rfl (by rfl) (fun W hSw => by go_simp) (fun _ _ _ h => h) HS.out ?_
      simp only [Act.put, List.setIfInBounds_toArray, List.set_cons_zero, List.set_cons_succ]
      refine hd_take 4 (o := ⟨some 41, _, _, _, _, _⟩) (.agg #[.int .i64 k, .int .i64 o, .int .i64 s, .int .i64 r]) (by kernel_rfl) (by kernel_rfl) (by kernel_rfl) rfl (by rfl) (fun W hSw => by obtain ⟨q0, q1, q2, q3⟩ := hSw; go_simp) (fun _ _ _ h => h) HS.out ?_
      simp only [Act.put, List.setIfInBounds_toArray, List.set_cons_zero, List.set_cons_succ]
      refine hd_call 5 (o := ⟨some 42, _, _, _, _, _⟩) (by kernel_rfl) rfl (by rfl) (fun K' hK => ?_)
      go_simp
      go_wp2_with (go_at_call 31; refine (noneR_any _).mono ?_; rintro e1 w5 ⟨rfl, hb5⟩)
      have HR5 := hide (HRd.out.below hb5)
      have HX5 := hide (HXd.out.trans (Ext.of_below hb5))
      have HB5 : Hid (w5.heap[w.heap.size]? = some (.cells #[.int .i64 k, .int .i64 o, .int .i64 s, .int .i64 r] 28 (0, 0))) := hide (by rw [hb5.block _ (Array.getElem?_eq_some_iff.1 HBd.out).1]; exact HBd.out)
      clear hb5
      refine hK _ _ (cap4_of HB5.out) ?_
      clear hK K'
      try simp only [Act.put, List.setIfInBounds_toArray, List.set_cons_zero, List.set_cons_succ]
      refine hd_call 6 (o := ⟨some 43, _, _, _, _, _⟩) (by kernel_rfl) rfl (by rfl) (fun K' hK => ?_)
      go_simp
      refine hK _ _ (cap4_of HB5.out) ?_
      clear hK K'
      try simp only [Act.put, List.setIfInBounds_toArray, List.set_cons_zero, List.set_cons_succ]
      refine hd_call 7 (o := ⟨some 44, _, _, _, _, _⟩) (by kernel_rfl) rfl (by rfl) (fun K' hK => ?_)
      go_simp
      go_wp2_with (go_at_call 80; refine (HLy.out _ HR5.out).mono ?_; rintro e1 w6 ⟨rfl, F6, hr6, hx6⟩)
      have HEnd := hide (And.intro hr6 (HX5.out.trans hx6))
      have HB6 := hide (cap4_of (hx6.keepB HB5.out HnF.out))
      clear hr6 hx6
      refine hK _ _ HB6.out ?_
      clear hK K'
      try simp only [Act.put, List.setIfInBounds_toArray, List.set_cons_zero, List.set_cons_succ]
      refine wpAnyH_done (by kernel_rfl) ?_ _
      go_wp2
      go_ret2
      exact ⟨rfl, F6, HEnd.out.1, HEnd.out.2⟩
    · have hcb : (d == 0) = false := by rw [beq_eq_false_iff_ne]; exact hc
      have HR4' : Hid (RbA R (bk.set i (some l')) w4 F) := hide (by rw [hbk]; exact HR4.out)
      clear hc hbk
      go_wp2
      go_ret2
      exact ⟨rfl, F, HR4'.out, HX4.out⟩
end
end Go.Proofs.YteacmcdmdeckmaaGreat

namespace Go.Proofs.YteacmcdmdeckmaaGreat
open Go.RowKit

theorem ok16b : ∀ a b : Fin 16, (bits .andNot .i64 (bits .or .i64 (a.val : Int) 4) (b.val : Int) == 0) = ((bits .andNot .i64 4 (b.val : Int) == 0) && (bits .andNot .i64 (a.val : Int) (b.val : Int) == 0)) := by decide +kernel
theorem okR_split {a b : Nat} (ha : a < 16) (hb : b < 16) {r : Rc} (hr : r.r = (b : Int)) : okR (a : Int) r = ((bits .andNot .i64 4 (b : Int) == 0) && (bits .andNot .i64 (a : Int) (b : Int) == 0)) := by
  unfold okR; rw [hr]; exact ok16b ⟨a, ha⟩ ⟨b, hb⟩
section
variable {w : World} {R : Nat} {bk bk' : List (Option Lst)} {F : Nat → Prop} {v : Value} {K : List Rw}
set_option maxHeartbeats 3200000 in
theorem getD_any (h : RbAt w R v bk K) (ha : Ag bk K) (hw : Wb bk) (e s : Int) : Calls Tryz.prog 10 #[tp R, .int .i64 e, .int .i64 s] w fun x w' => x = .returned (.tuple #[((atB bk e s).getD Rc.zero).cap, .int .i64 (lcode bk e s)]) ∧ Below w.heap.size w w' := by
  have hb0 := (Below.refl w.heap.size w).alloc (Nat.le_refl _) (.cells #[.int .i64 0, .int .i64 0, .int .i64 0, .int .i64 0] 28)
  have h1 := h.below hb0
  have HL := hide (lookR_any h1 ha hw e s)
  have hZ : (w.alloc (.cells #[.int .i64 0, .int .i64 0, .int .i64 0, .int .i64 0] 28)).heap[w.heap.size]? = some (.cells #[.int .i64 0, .int .i64 0, .int .i64 0, .int .i64 0] 28 (0, 0)) := heap_alloc_last _ _
  have HB0 := hide hb0
  have HR1 := hide h1
  clear h h1 hb0
  go_enter Tryz.func10, Tryz.ntmps10
  go_wp2_with fail
  generalize hgw : w.alloc (.cells #[.int .i64 0, .int .i64 0, .int .i64 0, .int .i64 0] 28) = w0 at *
  clear hgw
  refine HL.out.mono ?_
  rintro e1 w1 ⟨hb1, ⟨i, a, b, r, rfl, hi, -, -, hr, hc⟩ | ⟨rfl, hn, hc⟩⟩
  · have HQ := hide (And.intro hr hc)
    have hlt := (Array.getElem?_eq_some_iff.1 hZ).1
    have hZ1 := (hb1.block w.heap.size hlt).trans hZ
    have hb1' := HB0.out.trans (hb1.mono HB0.out.size)
    have hR1 := HR1.out.below hb1
    have c16 := hR1.rowc
    obtain ⟨g, c, hv, hrow⟩ := hR1.at hi
    obtain ⟨L, hL⟩ : ∃ L, K.length = L := ⟨_, rfl⟩
    have hil : (i : Int) < (L : Int) := by have := (List.getElem?_eq_some_iff.1 hi).1; omega
    rw [hL] at hv
    subst hv
    obtain ⟨-, -, r2, r3, r4, r5, -, -⟩ := hrow
    simp only at r2 r3 r4 r5
    obtain ⟨f0, f1, f2, f3⟩ := blk4f hZ1
    obtain ⟨d0, d1, d2, d3⟩ := cap4_of hZ1
    have HS := hide (fun a b c d => set4 hZ1 a b c d)
    have HB1 := hide hb1'
    clear hb1 HL hZ hZ1 hR1 hi hr hc hL HR1 HB0 hb1'
    go_wp2
    refine bodyPost_ret (results_row2 rfl _ _ w.heap.size 28 #[.int .i64 r.k, .int .i64 r.o, .int .i64 r.s, .int .i64 r.r] (0, 0) _ rfl (HS.out _ _ _ _) Tryz.underlying28 rfl (by kernel_rfl)) rfl ?_
    exact ⟨by rw [HQ.out.1, HQ.out.2]; rfl, (((HB1.out.setCell (p := ⟨w.heap.size, 0, none⟩) (Nat.le_refl _) _).setCell (p := ⟨w.heap.size, 1, none⟩) (Nat.le_refl _) _).setCell (p := ⟨w.heap.size, 2, none⟩) (Nat.le_refl _) _).setCell (p := ⟨w.heap.size, 3, none⟩) (Nat.le_refl _) _⟩
  · skip
    have hcb : (lcode bk e s == 0) = false := by rw [beq_eq_false_iff_ne]; omega
    have hlt := (Array.getElem?_eq_some_iff.1 hZ).1
    have hZ1 := (hb1.block w.heap.size hlt).trans hZ
    have HB1 := hide (HB0.out.trans (hb1.mono HB0.out.size))
    obtain ⟨f0, f1, f2, f3⟩ := blk4f hZ1
    obtain ⟨d0, d1, d2, d3⟩ := cap4_of hZ1
    have HS := hide (fun a b c d => set4 hZ1 a b c d)
    obtain ⟨cc, hcc⟩ : ∃ cc, lcode bk e s = cc := ⟨_, rfl⟩
    rw [hcc] at hcb ⊢
    have Hcc := hide (And.intro hn hcc)
    clear hcc
    clear hb1 HL hZ hZ1 hn hc HR1 HB0
    go_wp2
    refine bodyPost_ret (results_row2 rfl _ _ w.heap.size 28 #[.int .i64 0, .int .i64 0, .int .i64 0, .int .i64 0] (0, 0) _ rfl (HS.out _ _ _ _) Tryz.underlying28 rfl (by kernel_rfl)) rfl ?_
    exact ⟨by rw [Hcc.out.1, Hcc.out.2]; rfl, (((HB1.out.setCell (p := ⟨w.heap.size, 0, none⟩) (Nat.le_refl _) _).setCell (p := ⟨w.heap.size, 1, none⟩) (Nat.le_refl _) _).setCell (p := ⟨w.heap.size, 2, none⟩) (Nat.le_refl _) _).setCell (p := ⟨w.heap.size, 3, none⟩) (Nat.le_refl _) _⟩
set_option maxHeartbeats 3200000 in
theorem fromD_any (h : RbAt w R v bk K) (ha : Ag bk K) (hw : Wb bk) (e s : Int) : Calls Tryz.prog 12 #[tp R, .int .i64 e, .int .i64 s] w fun x w' => x = .returned (.tuple #[.agg #[.int .i64 (fromB bk e s).1, .int .i64 (fromB bk e s).2], .int .i64 (lcode bk e s)]) ∧ Below w.heap.size w w' := by
  have hb0 := (Below.refl w.heap.size w).alloc (Nat.le_refl _) (.cells #[.int .i64 0, .int .i64 0] 48)
  have h1 := h.below hb0
  have HL := hide (lookR_any h1 ha hw e s)
  have hZ : (w.alloc (.cells #[.int .i64 0, .int .i64 0] 48)).heap[w.heap.size]? = some (.cells #[.int .i64 0, .int .i64 0] 48 (0, 0)) := heap_alloc_last _ _
  have HB0 := hide hb0
  have HR1 := hide h1
  clear h h1 hb0
  go_enter Tryz.func12, Tryz.ntmps12
  go_wp2_with fail
  generalize hgw : w.alloc (.cells #[.int .i64 0, .int .i64 0] 48) = w0 at *
  clear hgw
  refine HL.out.mono ?_
  rintro e1 w1 ⟨hb1, ⟨i, a, b, r, rfl, hi, -, -, hr, hc⟩ | ⟨rfl, hn, hc⟩⟩
  · have HQ : Hid (fromB bk e s = (r.e, r.t) ∧ lcode bk e s = 0) := hide ⟨by unfold fromB; rw [hr], hc⟩
    have hlt := (Array.getElem?_eq_some_iff.1 hZ).1
    have hZ1 := (hb1.block w.heap.size hlt).trans hZ
    have hb1' := HB0.out.trans (hb1.mono HB0.out.size)
    have hR1 := HR1.out.below hb1
    have c16 := hR1.rowc
    obtain ⟨g, c, hv, hrow⟩ := hR1.at hi
    obtain ⟨L, hL⟩ : ∃ L, K.length = L := ⟨_, rfl⟩
    have hil : (i : Int) < (L : Int) := by have := (List.getElem?_eq_some_iff.1 hi).1; omega
    rw [hL] at hv
    subst hv
    obtain ⟨-, -, -, -, -, -, r6, r7⟩ := hrow
    simp only at r6 r7
    obtain ⟨d0, d1, f0, f1⟩ := blk2 hZ1
    have HS := hide (fun a b => set2a hZ1 a b)
    have HB1 := hide hb1'
    clear hb1 HL hZ hZ1 hR1 hi hr hc hL HR1 HB0 hb1'
    go_wp2
    refine bodyPost_ret (results_row2 rfl _ _ w.heap.size 48 #[.int .i64 r.e, .int .i64 r.t] (0, 0) _ rfl (HS.out _ _) Tryz.underlying48 rfl (by kernel_rfl)) rfl ?_
    exact ⟨by rw [HQ.out.1, HQ.out.2]; rfl, (HB1.out.setCell (p := ⟨w.heap.size, 0, none⟩) (Nat.le_refl _) _).setCell (p := ⟨w.heap.size, 1, none⟩) (Nat.le_refl _) _⟩
  · have HQ : Hid (fromB bk e s = (-1, -1)) := hide (by unfold fromB; rw [hn])
    have hcb : (lcode bk e s == 0) = false := by rw [beq_eq_false_iff_ne]; omega
    have hlt := (Array.getElem?_eq_some_iff.1 hZ).1
    have HZ1 := hide ((hb1.block w.heap.size hlt).trans hZ)
    have HB1 := hide (HB0.out.trans (hb1.mono HB0.out.size))
    obtain ⟨cc, hcc⟩ : ∃ cc, lcode bk e s = cc := ⟨_, rfl⟩
    rw [hcc] at hcb ⊢
    have Hcc := hide (And.intro hn hcc)
    clear hcc
    clear hb1 HL hZ hn hc HR1 HB0
    go_wp2_with fail
    refine (noneR_any _).mono ?_
    rintro e1 w2 ⟨rfl, hb2⟩
    have hZ2 := (hb2.block w.heap.size (Array.getElem?_eq_some_iff.1 HZ1.out).1).trans HZ1.out
    obtain ⟨d0, d1, f0, f1⟩ := blk2 hZ2
    have HS := hide (fun a b => set2a hZ2 a b)
    have HB2 := hide (HB1.out.trans (hb2.mono HB1.out.size))
    clear hb2 hZ2
    go_wp2
    refine bodyPost_ret (results_row2 rfl _ _ w.heap.size 48 #[.int .i64 (-1), .int .i64 (-1)] (0, 0) _ rfl (HS.out _ _) Tryz.underlying48 rfl (by kernel_rfl)) rfl ?_
    exact ⟨by rw [HQ.out, Hcc.out.2]; rfl, (HB2.out.setCell (p := ⟨w.heap.size, 0, none⟩) (Nat.le_refl _) _).setCell (p := ⟨w.heap.size, 1, none⟩) (Nat.le_refl _) _⟩
end
end Go.Proofs.YteacmcdmdeckmaaGreat

namespace Go.Proofs.YteacmcdmdeckmaaGreat
open Go.RowKit

section
variable {w : World} {R : Nat} {bk bk' : List (Option Lst)} {F : Nat → Prop}
set_option maxRecDepth 100000 in
set_option maxHeartbeats 6400000 in
theorem deriveD_any (h : RbA R bk w F) (hw : Wb bk) (hrt : ∀ e s r, atB bk e s = some r → Rt r) (e s tgt a rights v c : Int) (hm : DeriveR bk e s tgt a rights v c bk') :
    Calls Tryz.prog 56 #[tp R, .int .i64 e, .int .i64 s, .int .i64 tgt, .int .i64 a, .int .i64 rights] w fun x w' => x = .returned (.tuple #[.int .i64 v, .int .i64 c]) ∧ ∃ F', RbA R bk' w' F' ∧ Ext F w F' w' := by
  have HR := hide h
  have HW := hide hw
  have HH : Hid (∀ z, Calls Tryz.prog 35 #[tp R, .int .i64 z] w fun x w' => x = .returned (.bool (look bk z).isSome) ∧ w' = w) := hide (fun z => by obtain ⟨rv, K, hr, hag, he⟩ := h; exact hasR_any hr hw z)
  obtain ⟨rv, K, hr, hag, he⟩ := h
  have HA := hide (atb_any hr hag hw.p8 e s)
  have HRr := hide hr
  have HAg := hide hag
  have HE := hide he
  have HRt := hide hrt
  clear hr hag he hw hrt
  -- a list that is not open
  by_cases hle : (look bk e).isSome = false ∨ (look bk tgt).isSome = false
  · obtain ⟨rfl, rfl, rfl⟩ : v = -1 ∧ c = 83 ∧ bk' = bk := by
      rcases hm with ⟨_, h1, h2, h3⟩ | ⟨⟨l, hl⟩, hn, h1, h2, h3⟩ | ⟨⟨l, hl⟩, ⟨r, hr⟩, _⟩ | ⟨⟨l, hl⟩, ⟨r, hr, _⟩, _⟩ | ⟨i, l, l', r, rfl, hl, hr, _⟩
      · exact ⟨h1, h2, h3⟩
      · refine ⟨h1, ?_, h3⟩
        rw [h2]
        rcases hle with h | h
        · exact (lcode_closed (by cases hq : look bk e with | none => rfl | some x => rw [hq] at h; cases h)).1
        · rw [hl] at h; cases h
      all_goals exfalso
      all_goals
        rcases hle with h | h
        · obtain ⟨i2, j2, l2, q1, _, q3, _⟩ := atB_some hr
          rw [q1, look_nat, q3] at h; cases h
        · first | (rw [hl] at h; cases h) | (rw [look_nat, hl] at h; cases h)
    cases hq : (look bk' e).isSome with
    | false =>
      have H1 := hide (HH.out e)
      rw [hq] at H1
      clear hle hm hq HH HA
      go_enter Tryz.func56, Tryz.ntmps56
      go_wp2_with fail
      refine H1.out.mono ?_
      rintro e1 w2 ⟨rfl, rfl⟩
      go_wp2
      go_ret2
      exact ⟨rfl, F, HR.out, Ext.refl _ _⟩
    | true =>
      have hq2 : (look bk' tgt).isSome = false := by
        rcases hle with h | h
        · rw [hq] at h; cases h
        · exact h
      have H1 := hide (HH.out e)
      have H2 := hide (HH.out tgt)
      rw [hq] at H1
      rw [hq2] at H2
      clear hle hm hq hq2 HH HA
      go_enter Tryz.func56, Tryz.ntmps56
      go_wp2_with fail
      refine H1.out.mono ?_
      rintro e1 w2 ⟨rfl, rfl⟩
      go_wp2_with fail
      refine H2.out.mono ?_
      rintro e1 w3 ⟨rfl, rfl⟩
      go_wp2
      go_ret2
      exact ⟨rfl, F, HR.out, Ext.refl _ _⟩
  · have hq : (look bk e).isSome = true := by cases h : (look bk e).isSome with | true => rfl | false => exact absurd (.inl h) hle
    have hq2 : (look bk tgt).isSome = true := by cases h : (look bk tgt).isSome with | true => rfl | false => exact absurd (.inr h) hle
    have H1 := hide (HH.out e)
    have H2 := hide (HH.out tgt)
    rw [hq] at H1
    rw [hq2] at H2
    have HQ := hide (And.intro hq hq2)
    have HM := hide hm
    clear hle hm hq hq2 HH
    go_enter Tryz.func56, Tryz.ntmps56
    go_wp2_with fail
    refine H1.out.mono ?_
    rintro e1 w2 ⟨rfl, rfl⟩
    go_wp2_with fail
    refine H2.out.mono ?_
    rintro e1 w3 ⟨rfl, rfl⟩
    go_wp2_with fail
    refine HA.out.mono ?_
    rintro e1 w4 ⟨hb4, ⟨i, a1, b1, r, rfl, hi, he, hs, hr⟩ | ⟨rfl, hn⟩⟩
    · have HX4 : Hid (RbA R bk w4 F ∧ Ext F w3 F w4) := hide ⟨HR.out.below hb4, Ext.of_below hb4⟩
      have hR4 := HRr.out.below hb4
      have HR4 := hide hR4
      have c16 := hR4.rowc
      obtain ⟨g, c9, hv, hrow⟩ := hR4.at hi
      obtain ⟨L, hL⟩ : ∃ L, K.length = L := ⟨_, rfl⟩
      have hil : (i : Int) < (L : Int) := by have := (List.getElem?_eq_some_iff.1 hi).1; omega
      have hi0 : decide ((i : Int) < 0) = false := by simp
      rw [hL] at hv
      subst hv
      obtain ⟨-, -, r2, r3, r4, r5, -, -⟩ := hrow
      simp only at r2 r3 r4 r5
      have HPos := hide (And.intro hr (And.intro he hs))
      have hrt := HRt.out _ _ _ hr
      clear hR4 hi he hs hr hL hb4 HA H1 H2
      by_cases hbad : ¬ (-1 ≤ a ∧ a < 48) ∨ ¬ (0 ≤ rights ∧ rights ≤ 15)
      · obtain ⟨rfl, rfl, rfl⟩ : v = -1 ∧ c = 1 ∧ bk' = bk := by
          rcases HM.out with ⟨h1, _⟩ | ⟨_, h1, _⟩ | ⟨_, _, _, h1, h2, h3⟩ | ⟨_, _, h1, h2, _⟩ | ⟨_, _, _, _, _, _, _, _, h1, h2, _⟩
          · have := HQ.out.2; rw [h1] at this; cases this
          · rw [HPos.out.1] at h1; cases h1
          · exact ⟨h1, h2, h3⟩
          · rcases hbad with h | h
            · exact absurd h1 h
            · exact absurd h2 h
          · rcases hbad with h | h
            · exact absurd h1 h
            · exact absurd h2 h
        by_cases g1 : -1 ≤ a
        · have d1 : decide (a < -1) = false := by simp; omega
          by_cases g2 : a < 48
          · have d2 : decide (48 ≤ a) = false := by simp; omega
            by_cases g3 : 0 ≤ rights
            · have d3 : decide (rights < 0) = false := by simp; omega
              have d4 : decide (15 < rights) = true := by
                simp
                rcases hbad with h | h
                · omega
                · omega
              clear hbad g1 g2 g3 HM hrt
              go_wp2
              go_ret2
              exact ⟨rfl, F, HX4.out.1, HX4.out.2⟩
            · have d3 : decide (rights < 0) = true := by simp; omega
              clear hbad g1 g2 g3 HM hrt
              go_wp2
              go_ret2
              exact ⟨rfl, F, HX4.out.1, HX4.out.2⟩
          · have d2 : decide (48 ≤ a) = true := by simp; omega
            clear hbad g1 g2 HM hrt
            go_wp2
            go_ret2
            exact ⟨rfl, F, HX4.out.1, HX4.out.2⟩
        · have d1 : decide (a < -1) = true := by simp; omega
          clear hbad g1 HM hrt
          go_wp2
          go_ret2
          exact ⟨rfl, F, HX4.out.1, HX4.out.2⟩
      · have hga : -1 ≤ a ∧ a < 48 := by
          by_cases h : -1 ≤ a ∧ a < 48
          · exact h
          · exact absurd (.inl h) hbad
        have hgr : 0 ≤ rights ∧ rights ≤ 15 := by
          by_cases h : 0 ≤ rights ∧ rights ≤ 15
          · exact h
          · exact absurd (.inr h) hbad
        have d1 : decide (a < -1) = false := by simp; omega
        have d2 : decide (48 ≤ a) = false := by simp; omega
        have d3 : decide (rights < 0) = false := by simp; omega
        have d4 : decide (15 < rights) = false := by simp; omega
        obtain ⟨rn, hrn⟩ : ∃ rn : Nat, rights = (rn : Int) := ⟨rights.toNat, by omega⟩
        obtain ⟨rq, hrq⟩ : ∃ rq : Nat, r.r = (rq : Int) := ⟨r.r.toNat, by have := hrt.1; omega⟩
        have hrn16 : rn < 16 := by omega
        have hrq16 : rq < 16 := by have := hrt.2; omega
        have Hok := hide (okR_split hrn16 hrq16 hrq)
        have H4 := hide (fun W => amongR_any W 4 rq (by omega) hrq16)
        have H5 := hide (fun W => amongR_any W rn rq hrn16 hrq16)
        rw [← hrn] at Hok H5
        rw [← hrq] at H4 H5
        obtain ⟨t4, ht4⟩ : ∃ t, (bits .andNot .i64 4 (rq : Int) == 0) = t := ⟨_, rfl⟩
        obtain ⟨t5, ht5⟩ : ∃ t, (bits .andNot .i64 rights (rq : Int) == 0) = t := ⟨_, rfl⟩
        rw [ht4, ht5] at Hok
        have H4' : Hid (∀ W, Calls Tryz.prog 48 #[.int .i64 4, .int .i64 r.r] W fun x w' => x = .returned (.bool t4) ∧ w' = W) := hide (fun W => by have h := H4.out W; rw [hrq, show ((4 : Nat) : Int) = 4 from rfl, ht4] at h; rw [hrq]; exact h)
        have H5' : Hid (∀ W, Calls Tryz.prog 48 #[.int .i64 rights, .int .i64 r.r] W fun x w' => x = .returned (.bool t5) ∧ w' = W) := hide (fun W => by have h := H5.out W; rw [hrq, ht5] at h; rw [hrq]; exact h)
        have h48 : a < 48 := hga.2
        have HGa := hide (And.intro hga hgr)
        clear hbad hga hgr hrn hrq hrn16 hrq16 H4 H5 ht4 ht5 hrt
        go_upto_region 9 with fail
        obtain ⟨B, hB⟩ : ∃ B, B = w4.heap.size := ⟨_, rfl⟩
        have hba := (Below.refl w4.heap.size w4).alloc (Nat.le_refl _) (.cells #[.int .i64 r.k, .int .i64 r.o, .int .i64 r.s, .int .i64 r.r] 28)
        have hbx : (w4.alloc (.cells #[.int .i64 r.k, .int .i64 r.o, .int .i64 r.s, .int .i64 r.r] 28)).heap[B]? = some (.cells #[.int .i64 r.k, .int .i64 r.o, .int .i64 r.s, .int .i64 r.r] 28 (0, 0)) := by rw [hB]; exact heap_alloc_last _ _
        have HX5 : Hid (RbA R bk (w4.alloc (.cells #[.int .i64 r.k, .int .i64 r.o, .int .i64 r.s, .int .i64 r.r] 28)) F ∧ Ext F w3 F (w4.alloc (.cells #[.int .i64 r.k, .int .i64 r.o, .int .i64 r.s, .int .i64 r.r] 28)) ∧ ¬ F B) := hide ⟨HX4.out.1.below hba, HX4.out.2.trans (Ext.of_below hba), fun hf => by have := (good_rb R bk).lt HX4.out.1 _ hf; omega⟩
        have HBw : Hid (w3.heap.size ≤ B) := hide (by rw [hB]; exact HX4.out.2.mod.size)
        have HBx := hide hbx
        have HR5 := hide (HR4.out.below hba)
        rw [← hB]
        generalize w4.alloc (.cells #[.int .i64 r.k, .int .i64 r.o, .int .i64 r.s, .int .i64 r.r] 28) = w5 at *
        obtain ⟨x0, x1, x2, x3⟩ := cap4_of hbx
        obtain ⟨f0, f1, f2, f3⟩ := blk4f hbx
        clear hB hba hbx HX4 HR4 c16 r2 r3 r4 r5
        go_wp2_with fail
        refine (H4'.out _).mono ?_
        rintro e1 w6 ⟨rfl, rfl⟩
        cases t4 with
        | false =>
          obtain ⟨rfl, rfl, rfl⟩ : v = -1 ∧ c = 81 ∧ bk' = bk := by
            rcases HM.out with ⟨h1, _⟩ | ⟨_, h1, _⟩ | ⟨_, _, h1, _⟩ | ⟨_, _, _, _, h1, h2, h3⟩ | ⟨_, _, _, r9, _, _, h1, h2, _⟩
            · have := HQ.out.2; rw [h1] at this; cases this
            · rw [HPos.out.1] at h1; cases h1
            · rcases h1 with h | h
              · exact absurd HGa.out.1 h
              · exact absurd HGa.out.2 h
            · exact ⟨h1, h2, h3⟩
            · rw [HPos.out.1] at h1; cases h1; rw [Hok.out] at h2; cases h2
          clear HM
          go_wp2
          go_ret2
          exact ⟨rfl, F, HX5.out.1, HX5.out.2.1⟩
        | true =>
          go_wp2_with fail
          refine (H5'.out _).mono ?_
          rintro e1 w7 ⟨rfl, rfl⟩
          cases t5 with
          | false =>
            obtain ⟨rfl, rfl, rfl⟩ : v = -1 ∧ c = 81 ∧ bk' = bk := by
              rcases HM.out with ⟨h1, _⟩ | ⟨_, h1, _⟩ | ⟨_, _, h1, _⟩ | ⟨_, _, _, _, h1, h2, h3⟩ | ⟨_, _, _, r9, _, _, h1, h2, _⟩
              · have := HQ.out.2; rw [h1] at this; cases this
              · rw [HPos.out.1] at h1; cases h1
              · rcases h1 with h | h
                · exact absurd HGa.out.1 h
                · exact absurd HGa.out.2 h
              · exact ⟨h1, h2, h3⟩
              · rw [HPos.out.1] at h1; cases h1; rw [Hok.out] at h2; cases h2
            clear HM
            go_wp2
            go_ret2
            exact ⟨rfl, F, HX5.out.1, HX5.out.2.1⟩
          | true =>
            obtain ⟨it, l, l', rfl, hl, hlay, rfl⟩ : ∃ (it : Nat) (l l' : Lst), tgt = it ∧ bk[it]? = some (some l) ∧ LayR l a ⟨r.k, r.o, r.s, rights, e, s⟩ v c l' ∧ bk' = bk.set it (some l') := by
              rcases HM.out with ⟨h1, _⟩ | ⟨_, h1, _⟩ | ⟨_, _, h1, _⟩ | ⟨_, ⟨r9, h1, h2⟩, _⟩ | ⟨it, l, l', r9, h1, h2, h3, _, _, _, h4, h5⟩
              · have := HQ.out.2; rw [h1] at this; cases this
              · rw [HPos.out.1] at h1; cases h1
              · rcases h1 with h | h
                · exact absurd HGa.out.1 h
                · exact absurd HGa.out.2 h
              · rw [HPos.out.1] at h1; cases h1; rw [Hok.out] at h2; cases h2
              · rw [HPos.out.1] at h3; cases h3; exact ⟨it, l, l', h1, h2, h4, h5⟩
            have HL := hide (And.intro hl hlay)
            have HPl := hide (placeR_any HR5.out HAg.out HW.out.p8 (it : Int) a h48)
            clear hl hlay HM
            go_wp2_with fail
            refine HPl.out.mono ?_
            rintro e1 w8 ⟨u, d, rfl, hplc, hb8⟩
            obtain ⟨e1, e2, hres⟩ := plc_lay HL.out.1 (HW.out.l48 _ _ HL.out.1) h48 HL.out.2 hplc
            subst e1 e2
            have HX8 : Hid (RbA R bk w8 F ∧ Ext F w3 F w8) := hide ⟨HX5.out.1.below hb8, HX5.out.2.1.trans (Ext.of_below hb8)⟩
            have hbx8 : w8.heap[B]? = some (.cells #[.int .i64 r.k, .int .i64 r.o, .int .i64 r.s, .int .i64 r.r] 28 (0, 0)) := by rw [hb8.block _ (Array.getElem?_eq_some_iff.1 HBx.out).1]; exact HBx.out
            have HnB := hide HX5.out.2.2
            rcases hres with ⟨rfl, kk, rfl, hfree, hsh, hvw⟩ | ⟨hc, rfl, hbk⟩
            · obtain ⟨y0, y1, y2, y3⟩ := cap4_of hbx8
              obtain ⟨z0, z1, z2, z3⟩ := blk4f hbx8
              have HE9 : Hid ((w8.setCell ⟨B, 3, none⟩ (.int .i64 rights)).heap[B]? = some (.cells #[.int .i64 r.k, .int .i64 r.o, .int .i64 r.s, .int .i64 rights] 28 (0, 0)) ∧ RbA R bk (w8.setCell ⟨B, 3, none⟩ (.int .i64 rights)) F ∧ Ext F w3 F (w8.setCell ⟨B, 3, none⟩ (.int .i64 rights))) := by
                refine hide ⟨by rw [heap_setCell_same _ _ _ _ _ _ hbx8]; rfl, ?_, ?_⟩
                · exact (good_rb R bk).keep HX8.out.1 (by simp [World.setCell]) (fun b hf => heap_setCell_other _ _ _ _ (fun e => HnB.out (by have e2 : b = B := e; rw [← e2]; exact hf)))
                · exact ⟨HX8.out.2.mod.setCell (.inr HBw.out) _, HX8.out.2.new⟩
              have HLy : Hid (∀ W, RbA R bk W F → Calls Tryz.prog 80 #[tp R, .agg #[.int .i64 (it : Int), .int .i64 (kk : Int), .int .i64 r.k, .int .i64 r.o, .int .i64 r.s, .int .i64 rights, .int .i64 e, .int .i64 s]] W fun x w' => x = .returned (.tuple #[]) ∧ ∃ F', RbA R (bk.set it (some l')) w' F' ∧ Ext F W F' w') := hide (fun W hW => layD_any hW HW.out it kk ⟨r.k, r.o, r.s, rights, e, s⟩ hfree (flg_shape hsh) hvw)
              clear hfree hsh hvw hplc hb8 hbx8 x0 x1 x2 x3 f0 f1 f2 f3
              go_upto_region 15 with fail
              have hbx9 := HE9.out.1
              generalize w8.setCell ⟨B, 3, none⟩ (.int .i64 rights) = w9 at *
              obtain ⟨p0, p1, p2, p3⟩ := cap4_of hbx9
              clear hbx9 y0 y1 y2 y3 z0 z1 z2 z3
              go_wp2_with fail
              refine (HLy.out _ HE9.out.2.1).mono ?_
              rintro e1 w10 ⟨rfl, F10, hr10, hx10⟩
              have HEnd := hide (And.intro hr10 (HE9.out.2.2.trans hx10))
              clear hr10 hx10 p0 p1 p2 p3
              go_wp2
              go_ret2
              exact ⟨rfl, F10, HEnd.out.1, HEnd.out.2⟩
            · have hcb : (d == 0) = false := by rw [beq_eq_false_iff_ne]; exact hc
              have HR8' : Hid (RbA R (bk.set it (some l')) w8 F) := hide (by rw [hbk]; exact HX8.out.1)
              clear hc hbk hplc hb8 hbx8 x0 x1 x2 x3 f0 f1 f2 f3
              go_wp2
              go_ret2
              exact ⟨rfl, F, HR8'.out, HX8.out.2⟩
    · obtain ⟨rfl, rfl, rfl⟩ : v = -1 ∧ c = 80 ∧ bk' = bk := by
        rcases HM.out with ⟨h1, _⟩ | ⟨_, h1, h2, h3, h4⟩ | ⟨_, ⟨r, h1⟩, _⟩ | ⟨_, ⟨r, h1, _⟩, _⟩ | ⟨_, _, _, r, _, _, h1, _⟩
        · have := HQ.out.2; rw [h1] at this; cases this
        · refine ⟨h2, ?_, h4⟩
          rw [h3]; unfold lcode
          cases hq : look bk e with
          | none => have := HQ.out.1; rw [hq] at this; cases this
          | some l => rw [h1]; rfl
        all_goals rw [hn] at h1; cases h1
      have HX4 : Hid (RbA R bk' w4 F ∧ Ext F w3 F w4) := hide ⟨HR.out.below hb4, Ext.of_below hb4⟩
      clear hb4 hn HM H1 H2 HA
      go_wp2
      go_ret2
      exact ⟨rfl, F, HX4.out.1, HX4.out.2⟩
end
end Go.Proofs.YteacmcdmdeckmaaGreat
