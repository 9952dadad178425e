import Derived.Test.YtoaplkfmchphbaaDoorE13
namespace Go.Proofs.YtoaplkfmchphbaaDoor
open Go.RowKit
theorem atK_app (ps qs : List (Tx × (Nat × Int))) (s : Tx) (h : atK KS ps s ≠ none) : atK KS (ps ++ qs) s ≠ none := by
  unfold atK at *
  rw [List.find?_append]
  cases e : ps.find? fun p => KS.eqb s p.1 with
  | none => rw [e] at h; simp at h
  | some p => simp
theorem atK_new (ps : List (Tx × (Nat × Int))) (s : Tx) (x : Nat × Int) : atK KS (ps ++ [(s, x)]) s ≠ none := by
  unfold atK
  rw [List.find?_append]
  cases ps.find? fun p => KS.eqb s p.1 with
  | none => simp [KS]
  | some p => simp
/-- each label is among the labels -/
theorem lbs_has (ls : List Ln) : ∀ k, k ≤ ls.length → ∀ j (hj : j < ls.length), j < k → ls[j].label ≠ [] → atK KS (lbs ls k) ls[j].label ≠ none
  | 0, _, j, _, h, _ => by omega
  | k + 1, hk, j, hj, h, hne => by
    rw [lbs, List.getElem?_eq_getElem (show k < ls.length by omega)]
    simp only []
    by_cases e : j = k
    · subst e
      split
      · exact atK_new _ _ _
      · next h1 => exact fun h2 => h1 ⟨hne, h2⟩
    · have ih := lbs_has ls k (by omega) j hj (by omega) hne
      split
      · exact atK_app _ _ _ ih
      · exact ih
/-- how an answer looks -/
theorem asm_shape (ps : List (Tx × (Nat × Int))) : ∀ (ls : List Ln) (k : Nat) (ws : List Nat), ((asmL ps ls k ws).2.2 = 0 ∧ (asmL ps ls k ws).2.1 = 0) ∨ ((asmL ps ls k ws).2.2 ≠ 0 ∧ 1 ≤ (asmL ps ls k ws).2.1 ∧ (asmL ps ls k ws).1 = [])
  | [], k, ws => by simp [asmL]
  | l :: r, k, ws => by
    rw [asmL]
    by_cases e : fltT ps l k ws.length = 0
    · rw [if_pos e]; exact asm_shape ps r (k + 1) _
    · rw [if_neg e]
      exact .inr ⟨e, by simp, rfl⟩
/-- lines, one under the other -/
def jl : List Tx → Tx
  | [] => []
  | [x] => x
  | x :: r => x ++ 10 :: jl r
theorem split_jl : ∀ xs : List Tx, xs ≠ [] → (∀ x ∈ xs, ∀ c ∈ x, (c == (10 : UInt8)) = false) → splitT 10 (jl xs) = xs
  | [], h, _ => absurd rfl h
  | [x], _, h => split_end 10 x (h x (by simp))
  | x :: y :: r, _, h => by
    rw [show jl (x :: y :: r) = x ++ 10 :: jl (y :: r) from rfl, split_mark 10 x _ (h x (by simp)), split_jl (y :: r) (by simp) fun z hz => h z (by simp [hz])]
/-- the pieces bear no mark -/
theorem split_no (m : UInt8) : ∀ (s : Tx), ∀ x ∈ splitT m s, ∀ c ∈ x, (c == m) = false
  | [], x, hx, c, hc => by simp [splitT] at hx; subst hx; cases hc
  | d :: r, x, hx, c, hc => by
    have ih := split_no m r
    rw [splitT] at hx
    cases e : d == m with
    | true =>
      rw [e] at hx
      rcases List.mem_cons.1 hx with rfl | h
      · cases hc
      · exact ih x h c hc
    | false =>
      rw [e] at hx
      cases h1 : splitT m r with
      | nil => exact absurd h1 (split_ne m r)
      | cons p ps =>
        rw [h1] at hx ih
        rcases List.mem_cons.1 hx with rfl | h
        · rcases List.mem_cons.1 hc with rfl | h2
          · exact e
          · exact ih p (by simp) c h2
        · exact ih x (by simp [h]) c hc
/-- an empty line ahead, and lines that say the same: only the faulty line's number moves -/
theorem asm_more {s : Tx} {xs : List Tx} (hx : ∀ x ∈ xs, ∀ c ∈ x, (c == (10 : UInt8)) = false) (he : xs.map lineT = linesT s) (h1 : s.length ≤ 16384) (h2 : (10 :: jl xs).length ≤ 16384) :
    asmT (10 :: jl xs) = ((asmT s).1, (if (asmT s).2.2 = 0 then 0 else (asmT s).2.1 + 1), (asmT s).2.2) ∧ (((asmT s).2.2 = 0 ∧ (asmT s).2.1 = 0) ∨ ((asmT s).2.2 ≠ 0 ∧ 1 ≤ (asmT s).2.1 ∧ (asmT s).1 = [])) := by
  have hne : xs ≠ [] := fun e => by
    rw [e] at he
    unfold linesT at he
    have := split_ne 10 s
    cases h : splitT 10 s with
    | nil => exact this h
    | cons a b => rw [h] at he; simp at he
  have hl : linesT (10 :: jl xs) = ln0 :: linesT s := by
    unfold linesT
    rw [show (10 :: jl xs : Tx) = [] ++ 10 :: jl xs from rfl, split_mark 10 [] _ (by simp), split_jl xs hne hx, List.map_cons, he]
    rfl
  have hz : fltT (dn (lbs (linesT s) (linesT s).length)) ln0 0 (([] : List Nat).length : Int) = 0 := by
    unfold fltT ln0
    simp
  unfold asmT
  rw [if_neg (by omega), if_neg (by omega), hl, List.length_cons, lbs_dn, asmL, if_pos hz, show List.replicate ln0.words.toNat (wrdT (dn (lbs (linesT s) (linesT s).length)) ln0 (([] : List Nat).length : Int)) = [] from rfl, List.append_nil, asm_dn _ _ 0 [] fun l hl' hne' => by
    obtain ⟨j, hj, rfl⟩ := List.mem_iff_getElem.1 hl'
    exact lbs_has _ _ (Nat.le_refl _) j hj hj hne']
  exact ⟨rfl, asm_shape _ _ _ _⟩
end Go.Proofs.YtoaplkfmchphbaaDoor

namespace Go.Proofs.YtoaplkfmchphbaaDoor
open Go.RowKit
theorem rem5 (n : Int) : (IntKind.u64.wrap n).tmod 5 = 0 ∨ (IntKind.u64.wrap n).tmod 5 = 1 ∨ (IntKind.u64.wrap n).tmod 5 = 2 ∨ (IntKind.u64.wrap n).tmod 5 = 3 ∨ (IntKind.u64.wrap n).tmod 5 = 4 := by
  have e : IntKind.u64.wrap n = n % 18446744073709551616 := by simp [IntKind.wrap, IntKind.bits, IntKind.signed]
  have h : 0 ≤ IntKind.u64.wrap n := by rw [e]; omega
  rw [Int.tmod_eq_emod_of_nonneg h]
  omega
section
variable (w : World)
set_option maxRecDepth 100000 in
set_option maxHeartbeats 1000000 in
theorem blank_any (n : Int) : Calls Tryd.prog 13 #[.int .i64 n] w fun e w' => ∃ b : Tx, e = .returned (.string ⟨b.toArray⟩) ∧ (∀ c ∈ b, bl c = true) ∧ b.length ≤ 4 ∧ Below w.heap.size w w' := by
  rcases rem5 n with hq | hq | hq | hq | hq
  · go_enter Tryd.func13, Tryd.ntmps13
    go_wp2
    go_ret
    exact ⟨[], rfl, by simp, by simp, bel1 _ _⟩
  · go_enter Tryd.func13, Tryd.ntmps13
    go_wp2
    go_ret
    exact ⟨[32], rfl, by decide, by simp, bel1 _ _⟩
  · go_enter Tryd.func13, Tryd.ntmps13
    go_wp2
    go_ret
    exact ⟨[9], rfl, by decide, by simp, bel1 _ _⟩
  · go_enter Tryd.func13, Tryd.ntmps13
    go_wp2
    go_ret
    exact ⟨[32, 9, 32, 32], rfl, by decide, by simp, bel1 _ _⟩
  · go_enter Tryd.func13, Tryd.ntmps13
    go_wp2
    go_ret
    exact ⟨[32, 32], rfl, by decide, by simp, bel1 _ _⟩
set_option maxRecDepth 100000 in
set_option maxHeartbeats 1000000 in
theorem remark_any (n : Int) : Calls Tryd.prog 14 #[.int .i64 n] w fun e w' => ∃ b : Tx, e = .returned (.string ⟨b.toArray⟩) ∧ isRem b = true ∧ (∀ c ∈ b, (c == (10 : UInt8)) = false) ∧ b.length ≤ 10 ∧ Below w.heap.size w w' := by
  rcases rem5 n with hq | hq | hq | hq | hq
  · go_enter Tryd.func14, Tryd.ntmps14
    go_wp2
    go_ret
    exact ⟨[], rfl, rfl, by simp, by simp, bel1 _ _⟩
  · go_enter Tryd.func14, Tryd.ntmps14
    go_wp2
    go_ret
    exact ⟨[59], rfl, rfl, by decide, by simp, bel1 _ _⟩
  · go_enter Tryd.func14, Tryd.ntmps14
    go_wp2
    go_ret
    exact ⟨[59, 32, 110, 111, 112], rfl, rfl, by decide, by simp, bel1 _ _⟩
  · go_enter Tryd.func14, Tryd.ntmps14
    go_wp2
    go_ret
    exact ⟨[59, 59, 58, 32, 97, 44, 32, 98, 0, 255], rfl, rfl, by decide, by simp, bel1 _ _⟩
  · go_enter Tryd.func14, Tryd.ntmps14
    go_wp2
    go_ret
    exact ⟨[59, 46, 119, 111, 114, 100, 32, 49], rfl, rfl, by decide, by simp, bel1 _ _⟩
end
end Go.Proofs.YtoaplkfmchphbaaDoor

namespace Go.Proofs.YtoaplkfmchphbaaDoor
open Go.RowKit
/-- a piece of a text -/
def pc (t : Tx) (a b : Nat) : Tx := (t.drop a).take (b - a)
theorem pc_no {t : Tx} {a b : Nat} (h : ∀ j (hj : j < t.length), a ≤ j → j < b → (t[j] == (10 : UInt8)) = false) : ∀ c ∈ pc t a b, (c == (10 : UInt8)) = false := by
  intro c hc
  obtain ⟨j, hj, rfl⟩ := List.mem_iff_getElem.1 hc
  simp only [pc, List.length_take, List.length_drop] at hj
  simp only [pc, List.getElem_take, List.getElem_drop]
  exact h (a + j) (by omega) (by omega) (by omega)
/-- at a line's end -/
theorem split_at {t : Tx} {a b : Nat} (hab : a ≤ b) (hb : b < t.length) (h : ∀ j (hj : j < t.length), a ≤ j → j < b → (t[j] == (10 : UInt8)) = false) (hm : t[b] = 10) : splitT 10 (t.drop a) = pc t a b :: splitT 10 (t.drop (b + 1)) := by
  have e : t.drop a = pc t a b ++ 10 :: t.drop (b + 1) := by
    rw [← hm, ← List.drop_eq_getElem_cons hb]
    unfold pc
    have := List.take_append_drop (b - a) (t.drop a)
    rw [List.drop_drop, show a + (b - a) = b by omega] at this
    exact this.symm
  rw [e, split_mark 10 _ _ (pc_no h)]
/-- at the text's end -/
theorem split_last {t : Tx} {a : Nat} (h : ∀ j (hj : j < t.length), a ≤ j → j < t.length → (t[j] == (10 : UInt8)) = false) : splitT 10 (t.drop a) = [pc t a t.length] := by
  have e : t.drop a = pc t a t.length := by unfold pc; rw [List.take_of_length_le (by simp)]
  rw [e, split_end 10 _ (pc_no h)]
theorem jl_snoc (x : Tx) : ∀ xs : List Tx, jl (xs ++ [x]) = xs.flatMap (· ++ [10]) ++ x
  | [] => by simp [jl]
  | [y] => by simp [jl]
  | y :: z :: r => by
    have ih := jl_snoc x (z :: r)
    rw [show jl (y :: z :: r ++ [x]) = y ++ 10 :: jl (z :: r ++ [x]) from rfl, ih]
    simp
theorem bl_no10 {c : UInt8} (h : bl c = true) : (c == (10 : UInt8)) = false := by
  have h1 : c ∈ ([32, 9] : Tx) := List.contains_iff_mem.1 h
  have h2 : ∀ x ∈ ([32, 9] : Tx), (x == (10 : UInt8)) = false := by decide
  exact h2 c h1
/-- a line with its blanks and its remark bears no line's end -/
theorem dec_no {b s b' r : Tx} (h : ∀ c ∈ b, bl c = true) (hs : ∀ c ∈ s, (c == (10 : UInt8)) = false) (h' : ∀ c ∈ b', bl c = true) (hr : ∀ c ∈ r, (c == (10 : UInt8)) = false) : ∀ c ∈ b ++ s ++ b' ++ r, (c == (10 : UInt8)) = false := by
  intro c hc
  simp only [List.mem_append] at hc
  rcases hc with ((hc | hc) | hc) | hc
  · exact bl_no10 (h c hc)
  · exact hs c hc
  · exact bl_no10 (h' c hc)
  · exact hr c hc
/-- a round at a line's end -/
theorem step_mid {t : Tx} {xs : List Tx} {a b : Nat} {p q r : Tx} (hab : a ≤ b) (hb : b < t.length) (hn : ∀ j (hj : j < t.length), a ≤ j → j < b → (t[j] == (10 : UInt8)) = false) (hm : t[b] = 10) (hp : ∀ c ∈ p, bl c = true) (hq : ∀ c ∈ q, bl c = true) (hr : isRem r = true)
    (h : xs.map lineT ++ (splitT 10 (t.drop a)).map lineT = linesT t) : (xs ++ [p ++ pc t a b ++ q ++ r]).map lineT ++ (splitT 10 (t.drop (b + 1))).map lineT = linesT t := by
  rw [← h, split_at hab hb hn hm, List.map_append, List.map_cons, List.map_nil, line_blanks hp hq hr]
  simp
/-- the last round -/
theorem step_end {t : Tx} {xs : List Tx} {a : Nat} {p q r : Tx} (hn : ∀ j (hj : j < t.length), a ≤ j → j < t.length → (t[j] == (10 : UInt8)) = false) (hp : ∀ c ∈ p, bl c = true) (hq : ∀ c ∈ q, bl c = true) (hr : isRem r = true)
    (h : xs.map lineT ++ (splitT 10 (t.drop a)).map lineT = linesT t) : (xs ++ [p ++ pc t a t.length ++ q ++ r]).map lineT = linesT t := by
  rw [← h, split_last hn, List.map_append, List.map_cons, List.map_nil, line_blanks hp hq hr]
  simp
end Go.Proofs.YtoaplkfmchphbaaDoor
