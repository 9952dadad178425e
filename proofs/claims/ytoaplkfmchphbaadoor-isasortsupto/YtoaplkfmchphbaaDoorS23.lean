import Derived.Test.YtoaplkfmchphbaaDoorS13
namespace Go.Proofs.YtoaplkfmchphbaaDoor
open Go.RowKit
/-- blanks -/
def bl (c : UInt8) : Bool := ([32, 9] : Tx).contains c
theorem dropw_all {p : UInt8 → Bool} : ∀ {b x : Tx}, (∀ c ∈ b, p c = true) → (b ++ x).dropWhile p = x.dropWhile p
  | [], _, _ => rfl
  | c :: r, x, h => by
    rw [List.cons_append, List.dropWhile_cons, if_pos (h c (by simp))]
    exact dropw_all fun d hd => h d (by simp [hd])
theorem dropw_app (p : UInt8 → Bool) : ∀ (x y : Tx), (x ++ y).dropWhile p = if x.dropWhile p = [] then y.dropWhile p else x.dropWhile p ++ y
  | [], y => by simp
  | c :: r, y => by
    rw [List.cons_append, List.dropWhile_cons, List.dropWhile_cons]
    cases p c with
    | true => simpa using dropw_app p r y
    | false => simp
theorem trimR_app {s b : Tx} (h : ∀ c ∈ b, bl c = true) : Lib.trimRightS (s ++ b) [32, 9] = Lib.trimRightS s [32, 9] := by
  unfold Lib.trimRightS
  rw [List.reverse_append, dropw_all (p := fun x => ([32, 9] : Tx).contains x) fun c hc => h c (by simpa using hc)]
theorem trimL_app {s b : Tx} (h : ∀ c ∈ b, bl c = true) : Lib.trimLeftS (b ++ s) [32, 9] = Lib.trimLeftS s [32, 9] := by
  unfold Lib.trimLeftS
  exact dropw_all h
/-- blanks at both ends are nothing -/
theorem trim_blanks {s b b' : Tx} (h : ∀ c ∈ b, bl c = true) (h' : ∀ c ∈ b', bl c = true) : trimT (b ++ s ++ b') = trimT s := by
  unfold trimT Lib.trimS
  rw [trimR_app h']
  unfold Lib.trimRightS
  rw [List.reverse_append, dropw_app]
  by_cases e : (s.reverse.dropWhile fun x => ([32, 9] : Tx).contains x) = []
  · rw [if_pos e, e, show (b.reverse.dropWhile fun x => ([32, 9] : Tx).contains x) = [] from by
      have := dropw_all (p := fun x => ([32, 9] : Tx).contains x) (b := b.reverse) (x := []) fun c hc => h c (by simpa using hc)
      simpa using this]
  · rw [if_neg e, List.reverse_append, List.reverse_reverse]
    exact trimL_app h
/-- what stands ahead of the first mark -/
theorem cut_take (m : UInt8) : ∀ s : Tx, ((cutT [m] s).getD (s, [])).1 = s.takeWhile fun c => !([m].contains c)
  | [] => rfl
  | c :: r => by
    have ih := cut_take m r
    rw [cutT, List.takeWhile_cons]
    cases e : [m].contains c with
    | true => simp
    | false =>
      cases h : cutT [m] r with
      | none => rw [h] at ih; simpa using ih
      | some p => rw [h] at ih; simpa using ih
theorem takew_all {p : UInt8 → Bool} : ∀ {b x : Tx}, (∀ c ∈ b, p c = true) → (b ++ x).takeWhile p = b ++ x.takeWhile p
  | [], _, _ => rfl
  | c :: r, x, h => by
    rw [List.cons_append, List.takeWhile_cons, if_pos (h c (by simp)), takew_all fun d hd => h d (by simp [hd])]
    rfl
theorem takew_stop {p : UInt8 → Bool} : ∀ {s : Tx} (x : Tx), (∃ c ∈ s, p c = false) → (s ++ x).takeWhile p = s.takeWhile p
  | [], x, h => by obtain ⟨c, hc, _⟩ := h; cases hc
  | c :: r, x, h => by
    rw [List.cons_append, List.takeWhile_cons, List.takeWhile_cons]
    cases e : p c with
    | false => rfl
    | true =>
      obtain ⟨d, hd, hp⟩ := h
      rcases List.mem_cons.1 hd with rfl | h1
      · rw [e] at hp; cases hp
      · simp only [if_true]
        rw [takew_stop x ⟨d, h1, hp⟩]
/-- a remark: nothing, or what begins with its mark -/
def isRem : Tx → Bool
  | [] => true
  | c :: _ => c == 59
/-- a line with blanks at both ends and a remark says what it says -/
theorem line_blanks {s b b' r : Tx} (h : ∀ c ∈ b, bl c = true) (h' : ∀ c ∈ b', bl c = true) (hr : isRem r = true) : lineT (b ++ s ++ b' ++ r) = lineT s := by
  have n59 : ∀ c, bl c = true → (!([(59 : UInt8)].contains c)) = true := fun c hc => by
    have : c ∈ ([32, 9] : Tx) := List.contains_iff_mem.1 hc
    have h2 : ∀ x ∈ ([32, 9] : Tx), (!([(59 : UInt8)].contains x)) = true := by decide
    exact h2 c this
  have hrt : r.takeWhile (fun c => !([(59 : UInt8)].contains c)) = [] := by
    cases r with
    | nil => rfl
    | cons c t =>
      obtain rfl : c = 59 := by simpa [isRem] using hr
      rfl
  have e : trimT ((b ++ s ++ b' ++ r).takeWhile fun c => !([(59 : UInt8)].contains c)) = trimT (s.takeWhile fun c => !([(59 : UInt8)].contains c)) := by
    rw [List.append_assoc, List.append_assoc, takew_all fun c hc => n59 c (h c hc)]
    by_cases hs : ∃ c ∈ s, (!([(59 : UInt8)].contains c)) = false
    · rw [takew_stop _ hs]
      have := trim_blanks (s := s.takeWhile fun c => !([(59 : UInt8)].contains c)) (b' := []) h (by simp)
      simpa using this
    · have hall : ∀ c ∈ s, (!([(59 : UInt8)].contains c)) = true := fun c hc => by
        cases e : (!([(59 : UInt8)].contains c)) with
        | true => rfl
        | false => exact absurd ⟨c, hc, e⟩ hs
      rw [takew_all hall, takew_all fun c hc => n59 c (h' c hc), hrt, List.append_nil]
      have h2 := takew_all (x := []) hall
      simp only [List.append_nil, List.takeWhile_nil] at h2
      rw [h2, ← List.append_assoc]
      exact trim_blanks h h'
  unfold lineT
  simp only []
  rw [cut_take, cut_take, e]
/-- the labels, one line lower -/
def dn (ps : List (Tx × (Nat × Int))) : List (Tx × (Nat × Int)) := ps.map fun p => (p.1, (p.2.1 + 1, p.2.2))
theorem atK_dn (ps : List (Tx × (Nat × Int))) (s : Tx) : atK KS (dn ps) s = (atK KS ps s).map fun m => (m.1 + 1, m.2) := by
  unfold atK dn
  rw [List.find?_map]
  simp only [Option.map_map, Function.comp_def]
theorem ahd_ln0 (ls : List Ln) (k : Nat) : ahd (ln0 :: ls) (k + 1) = ahd ls k := by
  unfold ahd
  simp [ln0]
theorem lbs_dn (ls : List Ln) : ∀ k, lbs (ln0 :: ls) (k + 1) = dn (lbs ls k)
  | 0 => by simp [lbs, ln0, dn]
  | k + 1 => by
    rw [lbs, lbs_dn ls k, List.getElem?_cons_succ, lbs]
    cases h : ls[k]? with
    | none => rfl
    | some l =>
      simp only []
      have e : atK KS (dn (lbs ls k)) l.label = none ↔ atK KS (lbs ls k) l.label = none := by rw [atK_dn]; simp
      by_cases h1 : l.label ≠ [] ∧ atK KS (lbs ls k) l.label = none
      · rw [if_pos ⟨h1.1, e.2 h1.2⟩, if_pos h1, ahd_ln0]
        simp [dn]
      · rw [if_neg fun h2 => h1 ⟨h2.1, e.1 h2.2⟩, if_neg h1]
theorem flt_dn (ps : List (Tx × (Nat × Int))) (l : Ln) (k : Nat) (a : Int) (hl : l.label ≠ [] → atK KS ps l.label ≠ none) : fltT (dn ps) l (k + 1) a = fltT ps l k a := by
  unfold fltT
  simp only [atK_dn]
  have e1 : (l.label ≠ [] ∧ (((atK KS ps l.label).map fun m => (m.1 + 1, m.2)).getD (0, 0)).1 ≠ k + 1) ↔ (l.label ≠ [] ∧ ((atK KS ps l.label).getD (0, 0)).1 ≠ k) := by
    refine and_congr_right fun h => ?_
    cases h2 : atK KS ps l.label with
    | none => exact absurd h2 (hl h)
    | some m => simp
  simp only [e1, Option.map_eq_none_iff]
theorem wrd_dn (ps : List (Tx × (Nat × Int))) (l : Ln) (a : Int) : wrdT (dn ps) l a = wrdT ps l a := by
  have e : ∀ s, (((atK KS ps s).map fun m => (m.1 + 1, m.2)).getD (0, 0)).2 = ((atK KS ps s).getD (0, 0)).2 := fun s => by cases atK KS ps s <;> rfl
  unfold wrdT immW
  simp only [atK_dn, e]
theorem asm_dn (ps : List (Tx × (Nat × Int))) : ∀ (ls : List Ln) (k : Nat) (ws : List Nat), (∀ l ∈ ls, l.label ≠ [] → atK KS ps l.label ≠ none) → asmL (dn ps) ls (k + 1) ws = ((asmL ps ls k ws).1, (if (asmL ps ls k ws).2.2 = 0 then 0 else (asmL ps ls k ws).2.1 + 1), (asmL ps ls k ws).2.2)
  | [], k, ws, _ => by simp [asmL]
  | l :: r, k, ws, h => by
    rw [asmL, asmL, flt_dn ps l k _ (h l (by simp)), wrd_dn]
    by_cases e : fltT ps l k ws.length = 0
    · rw [if_pos e, if_pos e]
      exact asm_dn ps r (k + 1) _ fun l' hl' => h l' (by simp [hl'])
    · rw [if_neg e, if_neg e]
      simp [e]
end Go.Proofs.YtoaplkfmchphbaaDoor

namespace Go.Proofs.YtoaplkfmchphbaaDoor
open Go.RowKit
theorem atK_app (ps qs : List (Tx × (Nat × Int))) (s : Tx) (h : atK KS ps s ≠ none) : atK KS (ps ++ qs) s ≠ none := by
  unfold atK at *
  rw [List.find?_append]
  cases e : ps.find? fun p => KS.eqb s p.1 with
  | none => rw [e] at h; simp at h
  | some p => simp
theorem atK_new (ps : List (Tx × (Nat × Int))) (s : Tx) (x : Nat × Int) : atK KS (ps ++ [(s, x)]) s ≠ none := by
  unfold atK
  rw [List.find?_append]
  cases ps.find? fun p => KS.eqb s p.1 with
  | none => simp [KS]
  | some p => simp
/-- each label is among the labels -/
theorem lbs_has (ls : List Ln) : ∀ k, k ≤ ls.length → ∀ j (hj : j < ls.length), j < k → ls[j].label ≠ [] → atK KS (lbs ls k) ls[j].label ≠ none
  | 0, _, j, _, h, _ => by omega
  | k + 1, hk, j, hj, h, hne => by
    rw [lbs, List.getElem?_eq_getElem (show k < ls.length by omega)]
    simp only []
    by_cases e : j = k
    · subst e
      split
      · exact atK_new _ _ _
      · next h1 => exact fun h2 => h1 ⟨hne, h2⟩
    · have ih := lbs_has ls k (by omega) j hj (by omega) hne
      split
      · exact atK_app _ _ _ ih
      · exact ih
/-- how an answer looks -/
theorem asm_shape (ps : List (Tx × (Nat × Int))) : ∀ (ls : List Ln) (k : Nat) (ws : List Nat), ((asmL ps ls k ws).2.2 = 0 ∧ (asmL ps ls k ws).2.1 = 0) ∨ ((asmL ps ls k ws).2.2 ≠ 0 ∧ 1 ≤ (asmL ps ls k ws).2.1 ∧ (asmL ps ls k ws).1 = [])
  | [], k, ws => by simp [asmL]
  | l :: r, k, ws => by
    rw [asmL]
    by_cases e : fltT ps l k ws.length = 0
    · rw [if_pos e]; exact asm_shape ps r (k + 1) _
    · rw [if_neg e]
      exact .inr ⟨e, by simp, rfl⟩
/-- lines, one under the other -/
def jl : List Tx → Tx
  | [] => []
  | [x] => x
  | x :: r => x ++ 10 :: jl r
theorem split_jl : ∀ xs : List Tx, xs ≠ [] → (∀ x ∈ xs, ∀ c ∈ x, (c == (10 : UInt8)) = false) → splitT 10 (jl xs) = xs
  | [], h, _ => absurd rfl h
  | [x], _, h => split_end 10 x (h x (by simp))
  | x :: y :: r, _, h => by
    rw [show jl (x :: y :: r) = x ++ 10 :: jl (y :: r) from rfl, split_mark 10 x _ (h x (by simp)), split_jl (y :: r) (by simp) fun z hz => h z (by simp [hz])]
/-- the pieces bear no mark -/
theorem split_no (m : UInt8) : ∀ (s : Tx), ∀ x ∈ splitT m s, ∀ c ∈ x, (c == m) = false
  | [], x, hx, c, hc => by simp [splitT] at hx; subst hx; cases hc
  | d :: r, x, hx, c, hc => by
    have ih := split_no m r
    rw [splitT] at hx
    cases e : d == m with
    | true =>
      rw [e] at hx
      rcases List.mem_cons.1 hx with rfl | h
      · cases hc
      · exact ih x h c hc
    | false =>
      rw [e] at hx
      cases h1 : splitT m r with
      | nil => exact absurd h1 (split_ne m r)
      | cons p ps =>
        rw [h1] at hx ih
        rcases List.mem_cons.1 hx with rfl | h
        · rcases List.mem_cons.1 hc with rfl | h2
          · exact e
          · exact ih p (by simp) c h2
        · exact ih x (by simp [h]) c hc
/-- an empty line ahead, and lines that say the same: only the faulty line's number moves -/
theorem asm_more {s : Tx} {xs : List Tx} (hx : ∀ x ∈ xs, ∀ c ∈ x, (c == (10 : UInt8)) = false) (he : xs.map lineT = linesT s) (h1 : s.length ≤ 16384) (h2 : (10 :: jl xs).length ≤ 16384) :
    asmT (10 :: jl xs) = ((asmT s).1, (if (asmT s).2.2 = 0 then 0 else (asmT s).2.1 + 1), (asmT s).2.2) ∧ (((asmT s).2.2 = 0 ∧ (asmT s).2.1 = 0) ∨ ((asmT s).2.2 ≠ 0 ∧ 1 ≤ (asmT s).2.1 ∧ (asmT s).1 = [])) := by
  have hne : xs ≠ [] := fun e => by
    rw [e] at he
    unfold linesT at he
    have := split_ne 10 s
    cases h : splitT 10 s with
    | nil => exact this h
    | cons a b => rw [h] at he; simp at he
  have hl : linesT (10 :: jl xs) = ln0 :: linesT s := by
    unfold linesT
    rw [show (10 :: jl xs : Tx) = [] ++ 10 :: jl xs from rfl, split_mark 10 [] _ (by simp), split_jl xs hne hx, List.map_cons, he]
    rfl
  have hz : fltT (dn (lbs (linesT s) (linesT s).length)) ln0 0 (([] : List Nat).length : Int) = 0 := by
    unfold fltT ln0
    simp
  unfold asmT
  rw [if_neg (by omega), if_neg (by omega), hl, List.length_cons, lbs_dn, asmL, if_pos hz, show List.replicate ln0.words.toNat (wrdT (dn (lbs (linesT s) (linesT s).length)) ln0 (([] : List Nat).length : Int)) = [] from rfl, List.append_nil, asm_dn _ _ 0 [] fun l hl' hne' => by
    obtain ⟨j, hj, rfl⟩ := List.mem_iff_getElem.1 hl'
    exact lbs_has _ _ (Nat.le_refl _) j hj hj hne']
  exact ⟨rfl, asm_shape _ _ _ _⟩
end Go.Proofs.YtoaplkfmchphbaaDoor

namespace Go.Proofs.YtoaplkfmchphbaaDoor
open Go.RowKit
theorem rem5 (n : Int) : (IntKind.u64.wrap n).tmod 5 = 0 ∨ (IntKind.u64.wrap n).tmod 5 = 1 ∨ (IntKind.u64.wrap n).tmod 5 = 2 ∨ (IntKind.u64.wrap n).tmod 5 = 3 ∨ (IntKind.u64.wrap n).tmod 5 = 4 := by
  have e : IntKind.u64.wrap n = n % 18446744073709551616 := by simp [IntKind.wrap, IntKind.bits, IntKind.signed]
  have h : 0 ≤ IntKind.u64.wrap n := by rw [e]; omega
  rw [Int.tmod_eq_emod_of_nonneg h]
  omega
section
variable (w : World)
set_option maxRecDepth 100000 in
set_option maxHeartbeats 1000000 in
theorem blank_any (n : Int) : Calls Tryd.prog 13 #[.int .i64 n] w fun e w' => ∃ b : Tx, e = .returned (.string ⟨b.toArray⟩) ∧ (∀ c ∈ b, bl c = true) ∧ b.length ≤ 4 ∧ Below w.heap.size w w' := by
  rcases rem5 n with hq | hq | hq | hq | hq
  · go_enter Tryd.func13, Tryd.ntmps13
    go_wp2
    go_ret
    exact ⟨[], rfl, by simp, by simp, bel1 _ _⟩
  · go_enter Tryd.func13, Tryd.ntmps13
    go_wp2
    go_ret
    exact ⟨[32], rfl, by decide, by simp, bel1 _ _⟩
  · go_enter Tryd.func13, Tryd.ntmps13
    go_wp2
    go_ret
    exact ⟨[9], rfl, by decide, by simp, bel1 _ _⟩
  · go_enter Tryd.func13, Tryd.ntmps13
    go_wp2
    go_ret
    exact ⟨[32, 9, 32, 32], rfl, by decide, by simp, bel1 _ _⟩
  · go_enter Tryd.func13, Tryd.ntmps13
    go_wp2
    go_ret
    exact ⟨[32, 32], rfl, by decide, by simp, bel1 _ _⟩
set_option maxRecDepth 100000 in
set_option maxHeartbeats 1000000 in
theorem remark_any (n : Int) : Calls Tryd.prog 14 #[.int .i64 n] w fun e w' => ∃ b : Tx, e = .returned (.string ⟨b.toArray⟩) ∧ isRem b = true ∧ (∀ c ∈ b, (c == (10 : UInt8)) = false) ∧ b.length ≤ 10 ∧ Below w.heap.size w w' := by
  rcases rem5 n with hq | hq | hq | hq | hq
  · go_enter Tryd.func14, Tryd.ntmps14
    go_wp2
    go_ret
    exact ⟨[], rfl, rfl, by simp, by simp, bel1 _ _⟩
  · go_enter Tryd.func14, Tryd.ntmps14
    go_wp2
    go_ret
    exact ⟨[59], rfl, rfl, by decide, by simp, bel1 _ _⟩
  · go_enter Tryd.func14, Tryd.ntmps14
    go_wp2
    go_ret
    exact ⟨[59, 32, 110, 111, 112], rfl, rfl, by decide, by simp, bel1 _ _⟩
  · go_enter Tryd.func14, Tryd.ntmps14
    go_wp2
    go_ret
    exact ⟨[59, 59, 58, 32, 97, 44, 32, 98, 0, 255], rfl, rfl, by decide, by simp, bel1 _ _⟩
  · go_enter Tryd.func14, Tryd.ntmps14
    go_wp2
    go_ret
    exact ⟨[59, 46, 119, 111, 114, 100, 32, 49], rfl, rfl, by decide, by simp, bel1 _ _⟩
end
end Go.Proofs.YtoaplkfmchphbaaDoor
