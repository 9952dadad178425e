import Derived.Deep.Cut
import Derived.Test.YtoaplkfmchphbaaDoorS18
namespace Go.Proofs.YtoaplkfmchphbaaDoor
open Go.RowKit
theorem trim1 {s : Tx} (ne : s ≠ []) (h1 : ∀ c, s.head? = some c → plC c = true) (h2 : ∀ c, s.getLast? = some c → plC c = true) : trimT (32 :: s) = s := by
  have hl : 0 < s.length := List.length_pos_iff.2 ne
  have nb : ∀ c, plC c = true → ([32, 9] : Tx).contains c = false := fun c h => pl_not h (by decide)
  have e1 : Lib.trimRightS (32 :: s) [32, 9] = 32 :: s := by
    rw [Lib.trimRightS_take (32 :: s) [32, 9] (32 :: s).length (Nat.le_refl _) (fun j b hj hb => by rw [List.getElem?_eq_none (by omega)] at hb; cases hb) (fun b _ hb => nb b (h2 b (by
      rw [List.getLast?_eq_getElem?]
      rw [List.length_cons, Nat.add_sub_cancel] at hb
      rw [show s.length = (s.length - 1) + 1 by omega, List.getElem?_cons_succ] at hb
      exact hb)))]
    simp
  unfold trimT Lib.trimS
  rw [e1, Lib.trimLeftS_drop (32 :: s) [32, 9] 1 (by simp) (fun j b hj hb => by
    obtain rfl : j = 0 := by omega
    simp at hb
    subst hb
    decide) (fun b hb => nb b (h1 b (by rw [List.head?_eq_getElem?]; simpa using hb)))]
  rfl
theorem name_head {name : Tx} {fs : List Tx} (hn : Pf name) : ∀ c, (name ++ jn [32] fs).head? = some c → plC c = true := fun c hc => hn.head c (by
  obtain ⟨z, hz⟩ := Option.isSome_iff_exists.1 (List.isSome_head?.2 hn.ne)
  rw [List.head?_append, hz] at hc
  rw [hz]
  simpa using hc)
theorem name_last {name : Tx} {fs : List Tx} (hn : Pf name) (hf : ∀ f ∈ fs, Pf f) : ∀ c, (name ++ jn [32] fs).getLast? = some c → plC c = true := by
  cases fs with
  | nil => simpa [jn] using hn.last
  | cons f r =>
    have hff := hf f (by simp)
    rw [jn, ← List.append_assoc, ← List.append_assoc]
    refine jn_last r (fun g hg => hf g (by simp [hg])) _ fun c hc => hff.last c ?_
    obtain ⟨z, hz⟩ := Option.isSome_iff_exists.1 (List.getLast?_isSome.2 hff.ne)
    rw [List.getLast?_append, hz] at hc
    rw [hz]
    simpa using hc
theorem st_of {name : Tx} {fs : List Tx} (hn : Pf name) (hf : ∀ f ∈ fs, Pf f) : stT (name ++ jn [32] fs) = (stmT name fs).getD lnBad := by
  unfold stT
  rw [if_neg (by have := hn.ne; simp [this])]
  cases fs with
  | nil =>
    simp only [jn, List.append_nil]
    rw [cut_free [32, 9] name fun x hx => pl_not (hn.all x hx) (by decide)]
    rfl
  | cons f r =>
    rw [show name ++ jn [32] (f :: r) = name ++ 32 :: (f ++ jn [44, 32] r) by simp [jn], cut_mark [32, 9] 32 _ (by decide) name fun x hx => pl_not (hn.all x hx) (by decide)]
    simp only [Option.getD_some]
    rw [sf_jn (hf f (by simp)) fun g hg => hf g (by simp [hg])]
theorem let_pl {c : UInt8} (h : isLet c = true) : plC c = true := by
  cases e : plC c with
  | true => rfl
  | false =>
    unfold plC at e
    have h1 : c ∈ ([32, 9, 44, 58, 59, 10] : Tx) := List.contains_iff_mem.1 (by rw [Bool.not_eq_false'] at e; exact e)
    have h2 : ∀ x ∈ ([32, 9, 44, 58, 59, 10] : Tx), isLet x = false := by decide
    rw [h2 c h1] at h
    cases h
theorem lbl_pf {a : Tx} (h : isLbl a = true) : Pf a := by
  cases a with
  | nil => simp [isLbl] at h
  | cons c r =>
    simp only [isLbl, Bool.and_eq_true, List.all_eq_true, Bool.or_eq_true] at h
    refine ⟨by simp, fun x hx => ?_⟩
    rcases List.mem_cons.1 hx with rfl | hx
    · exact let_pl h.1
    · rcases h.2 x hx with h2 | h2
      · exact let_pl h2
      · exact dig_pl h2
/-- a line with a label ahead of a name and its fields -/
theorem line_lab {a name : Tx} {fs : List Tx} (ha : isLbl a = true) (hn : Pf name) (hf : ∀ f ∈ fs, Pf f) : lineT (a ++ 58 :: 32 :: (name ++ jn [32] fs)) = { (stmT name fs).getD lnBad with label := a } := by
  have hp := lbl_pf ha
  have hne : name ++ jn [32] fs ≠ [] := by have := hn.ne; simp [this]
  have hh := name_head (fs := fs) hn
  have hl := name_last hn hf
  have hst := st_of hn hf
  have h59 := line_all [59] (by decide) (by decide) (by decide) hn hf
  generalize name ++ jn [32] fs = s at *
  have t1 := trim1 hne hh hl
  have t0 : trimT (a ++ 58 :: 32 :: s) = a ++ 58 :: 32 :: s := by
    refine trim_id (fun c hc => hp.head c ?_) (fun c hc => hl c ?_)
    · obtain ⟨z, hz⟩ := Option.isSome_iff_exists.1 (List.isSome_head?.2 hp.ne)
      rw [List.head?_append, hz] at hc
      rw [hz]
      simpa using hc
    · obtain ⟨z, hz⟩ := Option.isSome_iff_exists.1 (List.getLast?_isSome.2 hne)
      rw [show a ++ 58 :: 32 :: s = (a ++ [58, 32]) ++ s by simp, List.getLast?_append, hz] at hc
      rw [hz]
      simpa using hc
  unfold lineT
  rw [cut_free [59] (a ++ 58 :: 32 :: s) (fun x hx => by
    rcases List.mem_append.1 hx with h | h
    · exact pl_not (hp.all x h) (by decide)
    · rcases List.mem_cons.1 h with rfl | h
      · decide
      · rcases List.mem_cons.1 h with rfl | h
        · decide
        · exact h59 x h)]
  simp only [Option.getD_none]
  rw [t0, cut_mark [58] 58 (32 :: s) (by decide) a (fun x hx => pl_not (hp.all x hx) (by decide))]
  simp only []
  rw [if_pos ha, t1, hst]
theorem find_uniq {α : Type} {p : α → Bool} {x : α} : ∀ l : List α, x ∈ l → p x = true → (∀ y ∈ l, p y = true → y = x) → l.find? p = some x
  | [], h, _, _ => by cases h
  | a :: l, h, hp, hu => by
    by_cases ha : p a = true
    · rw [List.find?_cons_of_pos ha, hu a (by simp) ha]
    · rw [List.find?_cons_of_neg ha]
      refine find_uniq l ?_ hp fun y hy => hu y (by simp [hy])
      rcases List.mem_cons.1 h with rfl | h
      · exact absurd hp ha
      · exact h
/-- the label of line i -/
def lab (i : Nat) : Tx := 108 :: Lib.decDigits i
theorem lab_lbl (i : Nat) : isLbl (lab i) = true := by
  simp only [lab, isLbl, Bool.and_eq_true, List.all_eq_true, Bool.or_eq_true]
  exact ⟨by decide, fun x hx => .inr (dec_dig i x hx)⟩
theorem lab_inj {i j : Nat} (hi : i < 512) (hj : j < 512) (h : lab i = lab j) : i = j := by
  have e := congrArg numT (List.cons.inj h).2
  rw [(num_dec (u := i) (by omega)).1, (num_dec (u := j) (by omega)).1] at e
  simp at e
  omega
def jNm (i : Nat) : Tx := if i % 2 = 1 then [99, 97, 108, 108] else [106, 109, 112]
def jFs (i t : Nat) : List Tx := if i % 2 = 1 then [[114, 53], lab t] else [lab t]
def jI (i : Nat) (z : Int) : I := if i % 2 = 1 then ⟨25, 5, 0, z⟩ else ⟨21, 0, 0, z⟩
def jLn (i t : Nat) : Ln := ⟨false, lab i, jI i 0, lab t, 1⟩
def jTx (i t : Nat) : Tx := lab i ++ 58 :: 32 :: (jNm i ++ jn [32] (jFs i t))
theorem jNm_pf (i : Nat) : Pf (jNm i) := by
  unfold jNm
  split
  · exact ⟨by simp, by decide⟩
  · exact ⟨by simp, by decide⟩
theorem jFs_pf (i t : Nat) : ∀ f ∈ jFs i t, Pf f := by
  unfold jFs
  split
  · intro f hf
    rcases List.mem_cons.1 hf with rfl | hf
    · exact ⟨by simp, by decide⟩
    · obtain rfl : f = lab t := by simpa using hf
      exact lbl_pf (lab_lbl t)
  · intro f hf
    obtain rfl : f = lab t := by simpa using hf
    exact lbl_pf (lab_lbl t)
theorem op_call : opT [99, 97, 108, 108] = 25 := by decide +kernel
theorem op_jmp : opT [106, 109, 112] = 21 := by decide +kernel
theorem line_j (i t : Nat) : lineT (jTx i t) = jLn i t := by
  unfold jTx
  rw [line_lab (lab_lbl i) (jNm_pf i) (jFs_pf i t)]
  unfold jLn jNm jFs jI
  by_cases h : i % 2 = 1
  · rw [if_pos h, if_pos h, if_pos h]
    unfold stmT
    rw [if_neg (by decide), if_neg (by decide), op_call, if_neg (by decide)]
    simp [kinds, uA, uB, kd, fldsT, fldT, regT, immT, lab_lbl, ln0]
  · rw [if_neg h, if_neg h, if_neg h]
    unfold stmT
    rw [if_neg (by decide), if_neg (by decide), op_jmp, if_neg (by decide)]
    simp [kinds, uA, uB, kd, fldsT, fldT, immT, lab_lbl, ln0]
section
variable (T : Nat → Nat)
def jL (l : List Nat) : Tx := l.flatMap fun i => jTx i (T i) ++ [10]
theorem jL_snoc (k : Nat) : jL T (List.range (k + 1)) = jL T (List.range k) ++ (jTx k (T k) ++ [10]) := by
  unfold jL
  rw [List.range_succ, List.flatMap_append]
  simp
theorem j_no10 (i t : Nat) : ∀ x ∈ jTx i t, (x == (10 : UInt8)) = false := by
  intro x hx
  unfold jTx at hx
  rcases List.mem_append.1 hx with h | h
  · exact pl_ne ((lbl_pf (lab_lbl i)).all x h) (by decide)
  · rcases List.mem_cons.1 h with rfl | h
    · decide
    · rcases List.mem_cons.1 h with rfl | h
      · decide
      · have := line_all [10] (by decide) (by decide) (by decide) (jNm_pf i) (jFs_pf i t) x h
        rwa [Lib.contains_one] at this
theorem split_j : ∀ l : List Nat, splitT 10 (jL T l) = l.map (fun i => jTx i (T i)) ++ [[]]
  | [] => rfl
  | i :: r => by
    have e : jL T (i :: r) = jTx i (T i) ++ 10 :: jL T r := by unfold jL; simp
    rw [e, split_mark 10 _ _ (j_no10 i (T i)), split_j r]
    rfl
theorem lines_j (l : List Nat) : linesT (jL T l) = l.map (fun i => jLn i (T i)) ++ [ln0] := by
  unfold linesT
  rw [split_j, List.map_append, List.map_map]
  congr 1
  exact List.map_congr_left fun n _ => line_j n (T n)
def jPs (k : Nat) : List (Tx × (Nat × Int)) := (List.range k).map fun i => (lab i, (i, (i : Int)))
theorem at_none {k : Nat} (h : k < 512) : atK KS (jPs k) (lab k) = none := by
  unfold atK
  rw [Option.map_eq_none_iff, List.find?_eq_none]
  intro p hp
  unfold jPs at hp
  obtain ⟨i, hi, rfl⟩ := List.mem_map.1 hp
  have hi := List.mem_range.1 hi
  intro e
  have e2 : lab k = lab i := by simpa [KS] using e
  have := lab_inj h (by omega) e2
  omega
theorem at_some {n t : Nat} (hn : n ≤ 512) (h : t < n) : atK KS (jPs n) (lab t) = some (t, (t : Int)) := by
  unfold atK
  rw [find_uniq (x := (lab t, (t, (t : Int)))) (jPs n) (List.mem_map.2 ⟨t, List.mem_range.2 h, rfl⟩) (by simp [KS]) (fun y hy e => by
    obtain ⟨i, hi, rfl⟩ := List.mem_map.1 hy
    have hi := List.mem_range.1 hi
    have e2 : lab t = lab i := by simpa [KS] using e
    have := lab_inj (by omega) (by omega) e2
    subst this
    rfl)]
  rfl
section
variable {n : Nat}
theorem j_at {k : Nat} (h : k < n) : ((List.range n).map (fun i => jLn i (T i)) ++ [ln0])[k]? = some (jLn k (T k)) := by
  rw [List.getElem?_append_left (by simpa using h)]
  simp [h]
theorem j_ahd : ∀ k, k ≤ n → ahd ((List.range n).map (fun i => jLn i (T i)) ++ [ln0]) k = (k : Int)
  | 0, _ => by simp [ahd]
  | k + 1, h => by
    have h2 : k < ((List.range n).map (fun i => jLn i (T i)) ++ [ln0]).length := by simp; omega
    have h3 := j_at T (n := n) (k := k) (by omega)
    rw [List.getElem?_eq_getElem h2] at h3
    rw [ahd_step h2, j_ahd k (by omega), Option.some.inj h3]
    show (k : Int) + 1 = _
    omega

theorem j_lbs (hn : n ≤ 512) : ∀ k, k ≤ n → lbs ((List.range n).map (fun i => jLn i (T i)) ++ [ln0]) k = jPs k
  | 0, _ => rfl
  | k + 1, h => by
    rw [lbs, j_at T (by omega)]
    simp only []
    rw [j_lbs hn k (by omega), j_ahd T k (by omega), if_pos ⟨by simp [jLn, lab], at_none (by omega)⟩]
    unfold jPs
    rw [List.range_succ, List.map_append]
    rfl
/-- the word of line i -/
def jW (i t : Nat) : Nat := encW (jI i ((t : Int) - ((i : Int) + 1)))
theorem jI_op (i : Nat) (z : Int) : (jI i z).op ≠ 0 ∧ relN (jI i z).op = true := by
  unfold jI
  split
  · exact ⟨by show (25 : Int) ≠ 0; decide, rfl⟩
  · exact ⟨by show (21 : Int) ≠ 0; decide, rfl⟩

theorem j_flt (hn : n ≤ 512) (hT : ∀ i, i < n → T i < n) {k : Nat} (h : k < n) : fltT (jPs n) (jLn k (T k)) k (k : Int) = 0 := by
  have e : (jLn k (T k)).label = lab k := rfl
  have e2 : (jLn k (T k)).name = lab (T k) := rfl
  unfold fltT
  rw [if_neg (by simp [jLn]), e, e2, at_some hn h, at_some hn (hT k h), if_neg (by simp), if_neg (by simp), if_neg (by show ¬ (512 : Int) < k + 1; omega)]

theorem j_wrd (hn : n ≤ 512) (hT : ∀ i, i < n → T i < n) {k : Nat} (h : k < n) : wrdT (jPs n) (jLn k (T k)) (k : Int) = jW k (T k) := by
  have e1 : (jLn k (T k)).i = jI k 0 := rfl
  have e2 : (jLn k (T k)).name = lab (T k) := rfl
  unfold wrdT immW
  rw [e1, e2, if_neg (jI_op k 0).1, if_neg (by simp [lab]), if_pos (jI_op k 0).2, at_some hn (hT k h)]
  unfold jW jI
  split <;> rfl

theorem j_asm (hn : n ≤ 512) (hT : ∀ i, i < n → T i < n) : ∀ (m k : Nat) (ws : List Nat), k + m = n → ws.length = k → asmL (jPs n) ((List.range' k m).map (fun i => jLn i (T i)) ++ [ln0]) k ws = (ws ++ (List.range' k m).map (fun i => jW i (T i)), 0, 0)
  | 0, k, ws, h, hw => by
    have e : fltT (jPs n) ln0 k ws.length = 0 := by
      unfold fltT ln0
      simp
      omega
    rw [List.range'_zero, List.map_nil, List.nil_append, asmL, if_pos e, asmL]
    simp [ln0]
  | m + 1, k, ws, h, hw => by
    rw [List.range'_succ, List.map_cons, List.cons_append, asmL, hw, if_pos (j_flt T hn hT (by omega)), j_wrd T hn hT (by omega)]
    rw [show (jLn k (T k)).words.toNat = 1 from rfl, j_asm hn hT m (k + 1) _ (by omega) (by simp; omega)]
    simp
end
theorem dec_len3 {u : Nat} (h : u < 1000) : (Lib.decDigits u).length ≤ 3 := by
  rw [Lib.decDigits_length]
  by_cases h1 : u < 10
  · rw [Lib.nDigits_small h1]; omega
  · rw [Lib.nDigits_big h1]
    by_cases h2 : u / 10 < 10
    · rw [Lib.nDigits_small h2]; omega
    · rw [Lib.nDigits_big h2, Lib.nDigits_small (by omega)]; omega
theorem lab_len {i : Nat} (h : i < 512) : (lab i).length ≤ 4 := by
  have := dec_len3 (u := i) (by omega)
  simp [lab]
  omega
theorem jTx_len {i t : Nat} (h : i < 512) (ht : t < 512) : (jTx i t).length ≤ 19 := by
  have h1 := lab_len h
  have h2 := lab_len ht
  unfold jTx jNm jFs
  split <;> simp [jn] <;> omega
theorem jL_len : ∀ l : List Nat, (∀ i ∈ l, i < 512 ∧ T i < 512) → (jL T l).length ≤ 20 * l.length
  | [], _ => by simp [jL]
  | i :: r, h => by
    have e : jL T (i :: r) = jTx i (T i) ++ 10 :: jL T r := by unfold jL; simp
    have h1 := jL_len r fun x hx => h x (by simp [hx])
    have h2 := jTx_len (h i (by simp)).1 (h i (by simp)).2
    rw [e]
    simp
    omega
/-- what the text of the jumps gives -/
theorem asm_j {n : Nat} (hn : n ≤ 512) (hT : ∀ i, i < n → T i < n) : asmT (jL T (List.range n)) = ((List.range n).map (fun i => jW i (T i)), 0, 0) := by
  have hlen := jL_len T (List.range n) (fun i hi => by have := List.mem_range.1 hi; have := hT i this; omega)
  rw [List.length_range] at hlen
  unfold asmT
  rw [if_neg (by omega), lines_j]
  have e : lbs ((List.range n).map (fun i => jLn i (T i)) ++ [ln0]) ((List.range n).map (fun i => jLn i (T i)) ++ [ln0]).length = jPs n := by
    rw [show ((List.range n).map (fun i => jLn i (T i)) ++ [ln0]).length = n + 1 by simp, lbs, List.getElem?_append_right (by simp)]
    simp only [List.length_map, List.length_range, Nat.sub_self, List.getElem?_cons_zero]
    rw [if_neg (by simp [ln0]), j_lbs T hn n (Nat.le_refl _)]
  rw [e, List.range_eq_range', j_asm T hn hT n 0 [] (by omega) rfl]
  simp
end
end Go.Proofs.YtoaplkfmchphbaaDoor

namespace Go.Proofs.YtoaplkfmchphbaaDoor
open Go.RowKit
/-- a guest alone: its words, registers, program counter; has it made the call 1? -/
structure Mc where
  m : Nat → Nat
  R : Nat → Nat
  pc : Nat
  dn : Bool
def adr (R : Nat → Nat) (b : Nat) (z : Int) : Nat := (((R b : Nat) + z) % 4294967296).toNat
/-- one step: none: it went wrong -/
def stpI (s : Mc) (p : I) : Option Mc :=
  if isI p = false then none
  else if p.op = 19 then (if adr s.R p.b.toNat p.imm < 512 then some { s with R := put s.R p.a.toNat (s.m (adr s.R p.b.toNat p.imm)), pc := nx s.pc } else none)
  else if p.op = 20 then (if adr s.R p.b.toNat p.imm < 512 then some { s with m := put s.m (adr s.R p.b.toNat p.imm) (s.R p.a.toNat), pc := nx s.pc } else none)
  else if p.op = 26 then (if p.imm % 4294967296 = 1 then some { s with pc := nx s.pc, dn := true } else none)
  else if (p.op = 8 ∨ p.op = 9) ∧ s.R p.b.toNat = 0 then none
  else if p.op = 25 then some { s with R := put s.R p.a.toNat (nx s.pc), pc := tgt 25 (s.R p.a.toNat) (im p.imm) (nx s.pc) }
  else some { s with R := put s.R p.a.toNat (res p.op.toNat (s.R p.a.toNat) (s.R p.b.toNat) (im p.imm)), pc := tgt p.op.toNat (s.R p.a.toNat) (im p.imm) (nx s.pc) }
def stp (s : Mc) : Option Mc := if 512 ≤ s.pc then none else stpI s (parts (s.m s.pc))
/-- at most so many steps -/
def itr : Nat → Mc → Option Mc
  | 0, s => some s
  | n + 1, s => if s.dn then some s else (stp s).bind (itr n)
theorem itr_done {s : Mc} (h : s.dn = true) (n : Nat) : itr n s = some s := by
  cases n with
  | zero => rfl
  | succ n => rw [itr, if_pos h]
theorem itr_step {s s1 : Mc} (h : s.dn = false) (h1 : stp s = some s1) (n : Nat) : itr (n + 1) s = itr n s1 := by
  rw [itr, if_neg (by rw [h]; decide), h1]
  rfl
/-- k steps lead from one to the other -/
def Sts (k : Nat) (s s' : Mc) : Prop := ∀ n, itr (n + k) s = itr n s'
theorem Sts.refl (s : Mc) : Sts 0 s s := fun _ => rfl
theorem Sts.one {s s1 : Mc} (h : s.dn = false) (h1 : stp s = some s1) : Sts 1 s s1 := fun n => itr_step h h1 n
theorem Sts.trans {j k : Nat} {s s1 s2 : Mc} (h1 : Sts j s s1) (h2 : Sts k s1 s2) : Sts (j + k) s s2 := fun n => by
  rw [show n + (j + k) = (n + k) + j by omega, h1 (n + k), h2 n]
theorem Sts.then1 {k : Nat} {s s1 s2 : Mc} (h1 : Sts k s s1) (h : s1.dn = false) (h2 : stp s1 = some s2) : Sts (k + 1) s s2 := h1.trans (Sts.one h h2)
theorem Sts.ends {k n : Nat} {s s' : Mc} (h : Sts k s s') (hd : s'.dn = true) (hk : k ≤ n) : itr n s = some s' := by
  have := h (n - k)
  rw [show n - k + k = n by omega] at this
  rw [this, itr_done hd]
/-- a step at a word that is an instruction -/
theorem stp_at {s : Mc} {i : I} {s1 : Mc} (hp : s.pc < 512) (hw : s.m s.pc = word i) (hi : isI i = true) (h : stpI s i = some s1) : stp s = some s1 := by
  unfold stp
  rw [if_neg (by omega), hw, parts_word (isn.1 hi)]
  exact h
/-! Euclid's program -/
def rr (a b c : Nat) : Nat → Nat := fun j => if j = 1 then a else if j = 2 then b else if j = 3 then c else 0
theorem rr1 (a b c v : Nat) : put (rr a b c) 1 v = rr v b c := by funext j; unfold put rr; split <;> simp_all
theorem rr2 (a b c v : Nat) : put (rr a b c) 2 v = rr a v c := by
  funext j; unfold put rr
  by_cases h : j = 2
  · subst h; simp
  · simp [h]
theorem rr3 (a b c v : Nat) : put (rr a b c) 3 v = rr a b v := by
  funext j; unfold put rr
  by_cases h : j = 3
  · subst h; simp
  · simp [h]
theorem rr0 (a b c : Nat) : put (rr a b c) 0 0 = rr a b c := by
  funext j; unfold put rr
  by_cases h : j = 0
  · subst h; simp
  · simp [h]
def eIs : List I := [⟨19, 1, 0, 10⟩, ⟨19, 2, 0, 11⟩, ⟨22, 2, 0, 5⟩, ⟨4, 3, 1, 0⟩, ⟨9, 3, 2, 0⟩, ⟨4, 1, 2, 0⟩, ⟨4, 2, 3, 0⟩, ⟨21, 0, 0, -6⟩, ⟨20, 1, 0, 12⟩, ⟨26, 0, 0, 1⟩]
def eWs (x y : Nat) : List Nat := eIs.map word ++ [x, y, 4294967295]
def eM (x y : Nat) : Nat → Nat := fun i => (eWs x y).getD i 0
def eS (x y a b c pc : Nat) : Mc := ⟨eM x y, rr a b c, pc, false⟩
theorem eM_at (x y : Nat) {k : Nat} {i : I} (h : eIs[k]? = some i) : eM x y k = word i := by
  have hk : k < eIs.length := (List.getElem?_eq_some_iff.1 h).1
  unfold eM eWs
  rw [List.getD_eq_getElem?_getD, List.getElem?_append_left (by simpa using hk), List.getElem?_map, h]
  rfl
section
variable (x y : Nat) {a b c : Nat}
theorem e0 : stp (eS x y 0 0 0 0) = some (eS x y x 0 0 1) := by
  refine stp_at (i := ⟨19, 1, 0, 10⟩) (by show 0 < 512; decide) (eM_at x y (k := 0) rfl) (by decide) ?_
  have e : adr (rr 0 0 0) 0 10 = 10 := by decide
  have e2 : eM x y 10 = x := rfl
  simp [stpI, eS, show isI ⟨19, 1, 0, 10⟩ = true by decide, e, e2, rr1, nx]
theorem e1 : stp (eS x y x 0 0 1) = some (eS x y x y 0 2) := by
  refine stp_at (i := ⟨19, 2, 0, 11⟩) (by show 1 < 512; decide) (eM_at x y (k := 1) rfl) (by decide) ?_
  have e : adr (rr x 0 0) 0 11 = 11 := by simp [adr, rr]
  have e2 : eM x y 11 = y := rfl
  simp [stpI, eS, show isI ⟨19, 2, 0, 11⟩ = true by decide, e, e2, rr2, nx]
theorem e2 (h : b ≠ 0) : stp (eS x y a b c 2) = some (eS x y a b c 3) := by
  refine stp_at (i := ⟨22, 2, 0, 5⟩) (by show 2 < 512; decide) (eM_at x y (k := 2) rfl) (by decide) ?_
  have e : rr a b c 2 = b := rfl
  simp [stpI, eS, show isI ⟨22, 2, 0, 5⟩ = true by decide, e, res, tgt, h, rr2, nx]
theorem e2' : stp (eS x y a 0 c 2) = some (eS x y a 0 c 8) := by
  refine stp_at (i := ⟨22, 2, 0, 5⟩) (by show 2 < 512; decide) (eM_at x y (k := 2) rfl) (by decide) ?_
  have e : rr a 0 c 2 = 0 := rfl
  simp [stpI, eS, show isI ⟨22, 2, 0, 5⟩ = true by decide, e, res, tgt, rr2, nx, im]
theorem e3 : stp (eS x y a b c 3) = some (eS x y a b a 4) := by
  refine stp_at (i := ⟨4, 3, 1, 0⟩) (by show 3 < 512; decide) (eM_at x y (k := 3) rfl) (by decide) ?_
  have e : rr a b c 1 = a := rfl
  simp [stpI, eS, show isI ⟨4, 3, 1, 0⟩ = true by decide, e, res, tgt, rr3, nx]
theorem e4 (h : b ≠ 0) : stp (eS x y a b c 4) = some (eS x y a b (c % b) 5) := by
  refine stp_at (i := ⟨9, 3, 2, 0⟩) (by show 4 < 512; decide) (eM_at x y (k := 4) rfl) (by decide) ?_
  have e : rr a b c 2 = b := rfl
  have e' : rr a b c 3 = c := rfl
  simp [stpI, eS, show isI ⟨9, 3, 2, 0⟩ = true by decide, e, e', h, res, tgt, rr3, nx]
theorem eu5 : stp (eS x y a b c 5) = some (eS x y b b c 6) := by
  refine stp_at (i := ⟨4, 1, 2, 0⟩) (by show 5 < 512; decide) (eM_at x y (k := 5) rfl) (by decide) ?_
  have e : rr a b c 2 = b := rfl
  simp [stpI, eS, show isI ⟨4, 1, 2, 0⟩ = true by decide, e, res, tgt, rr1, nx]
theorem e6 : stp (eS x y a b c 6) = some (eS x y a c c 7) := by
  refine stp_at (i := ⟨4, 2, 3, 0⟩) (by show 6 < 512; decide) (eM_at x y (k := 6) rfl) (by decide) ?_
  have e : rr a b c 3 = c := rfl
  simp [stpI, eS, show isI ⟨4, 2, 3, 0⟩ = true by decide, e, res, tgt, rr2, nx]
theorem e7 : stp (eS x y a b c 7) = some (eS x y a b c 2) := by
  refine stp_at (i := ⟨21, 0, 0, -6⟩) (by show 7 < 512; decide) (eM_at x y (k := 7) rfl) (by decide) ?_
  have e : rr a b c 0 = 0 := rfl
  simp [stpI, eS, show isI ⟨21, 0, 0, -6⟩ = true by decide, e, res, tgt, rr0, nx, im]
def eT (x y a c : Nat) : Mc := ⟨put (eM x y) 12 a, rr a 0 c, 9, false⟩
def eE (x y a c : Nat) : Mc := ⟨put (eM x y) 12 a, rr a 0 c, 10, true⟩
theorem e8 : stp (eS x y a 0 c 8) = some (eT x y a c) := by
  refine stp_at (i := ⟨20, 1, 0, 12⟩) (by show 8 < 512; decide) (eM_at x y (k := 8) rfl) (by decide) ?_
  have e : adr (rr a 0 c) 0 12 = 12 := by simp [adr, rr]
  have e2 : rr a 0 c 1 = a := rfl
  simp [stpI, eS, eT, show isI ⟨20, 1, 0, 12⟩ = true by decide, e, e2, nx]
theorem e9 : stp (eT x y a c) = some (eE x y a c) := by
  refine stp_at (i := ⟨26, 0, 0, 1⟩) (by show 9 < 512; decide) (by show put (eM x y) 12 a 9 = _; rw [show put (eM x y) 12 a 9 = eM x y 9 from rfl]; exact eM_at x y (k := 9) rfl) (by decide) ?_
  simp [stpI, eE, eT, show isI ⟨26, 0, 0, 1⟩ = true by decide, nx]
/-- one round of the loop -/
theorem eR (h : b ≠ 0) : Sts 6 (eS x y a b c 2) (eS x y b (a % b) (a % b) 2) :=
  (((((Sts.one rfl (e2 x y h)).then1 rfl (e3 x y)).then1 rfl (e4 x y h)).then1 rfl (eu5 x y)).then1 rfl (e6 x y)).then1 rfl (e7 x y)
/-- the loop: two rounds halve b -/
theorem eL : ∀ (j a b c : Nat), b < 2 ^ j → ∃ k c', k ≤ 12 * j ∧ Sts k (eS x y a b c 2) (eS x y (Nat.gcd b a) 0 c' 2)
  | 0, a, b, c, h => by
    obtain rfl : b = 0 := by simpa using h
    exact ⟨0, c, by omega, by rw [Nat.gcd_zero_left]; exact Sts.refl _⟩
  | j + 1, a, b, c, h => by
    by_cases hb : b = 0
    · subst hb
      exact ⟨0, c, by omega, by rw [Nat.gcd_zero_left]; exact Sts.refl _⟩
    · have r1 := eR x y (a := a) (c := c) hb
      have hlt : a % b < b := Nat.mod_lt _ (by omega)
      have g1 : Nat.gcd b a = Nat.gcd (a % b) b := Nat.gcd_rec b a
      generalize a % b = r at *
      by_cases hr : r = 0
      · subst hr
        exact ⟨6, 0, by omega, by rw [g1, Nat.gcd_zero_left]; exact r1⟩
      · have r2 := eR x y (a := b) (b := r) (c := r) hr
        have g2 : Nat.gcd r b = Nat.gcd (b % r) r := Nat.gcd_rec r b
        have hq : b % r < 2 ^ j := by
          have h1 := Nat.mod_lt b (show 0 < r by omega)
          have h2 := Nat.div_add_mod b r
          have h3 : 1 ≤ b / r := (Nat.le_div_iff_mul_le (by omega)).2 (by omega)
          have h4 : r * 1 ≤ r * (b / r) := Nat.mul_le_mul_left r h3
          have h5 : 2 ^ (j + 1) = 2 * 2 ^ j := by rw [Nat.pow_succ]; omega
          omega
        obtain ⟨k, c', hk, hs⟩ := eL j r (b % r) (b % r) hq
        exact ⟨12 + k, c', by omega, by rw [g1, g2]; exact (r1.trans r2).trans hs⟩
/-- the whole run -/
theorem eAll (hy : y < 4294967296) : ∃ c', itr 700 (eS x y 0 0 0 0) = some (eE x y (Nat.gcd y x) c') := by
  obtain ⟨k, c', hk, hs⟩ := eL x y 32 x y 0 (by simpa using hy)
  refine ⟨c', Sts.ends (k := 2 + k + 3) ?_ rfl (by omega)⟩
  exact (((((Sts.one rfl (e0 x y)).then1 rfl (e1 x y)).trans hs).then1 rfl (e2' x y)).then1 rfl (e8 x y)).then1 rfl (e9 x y)
end
end Go.Proofs.YtoaplkfmchphbaaDoor

namespace Go.Proofs.YtoaplkfmchphbaaDoor
open Go.RowKit
set_option linter.unusedVariables false
structure Ef where
  k : Int
  a : Int
  r : Int
  v : Int
  c : Int
def Ef.cells (e : Ef) : List Value := [.int .i64 e.k, .int .u32 e.a, .int .i64 e.r, .int .u32 e.v, .int .i64 e.c]
structure Bg (w W : World) (N : Nat) (R : Nat → Nat) (pc : Nat) (e : Ef) : Prop where
  r : Rb W N R pc
  e : W.heap[N + 1]? = some (.cells e.cells.toArray 34 (0, 0))
  z : Rb W (N + 1 + 1) (fun _ => 0) 0
  b : Below N w W
theorem Bg.new (w : World) (R : Nat → Nat) (pc : Nat) (e : Ef) : Bg w (((w.alloc (.cells (rg R pc).toArray 32)).alloc (.cells e.cells.toArray 34)).alloc (.cells (rg (fun _ => 0) 0).toArray 32)) w.heap.size R pc e := by
  have r0 := Rb.new w R pc
  have s1 : (w.alloc (.cells (rg R pc).toArray 32)).heap.size = w.heap.size + 1 := by simp
  generalize hw1 : w.alloc (.cells (rg R pc).toArray 32) = w1 at *
  have b1 : Below w.heap.size w w1 := by rw [← hw1]; exact bel1 _ _
  clear hw1
  have e0 := heap_alloc_last w1 (.cells e.cells.toArray 34)
  rw [s1] at e0
  have b2 := bel1 w1 (.cells e.cells.toArray 34)
  have s2 : (w1.alloc (.cells e.cells.toArray 34)).heap.size = w.heap.size + 1 + 1 := by simp [s1]
  generalize hw2 : w1.alloc (.cells e.cells.toArray 34) = w2 at *
  clear hw2
  have z0 := Rb.new w2 (fun _ => 0) 0
  rw [s2] at z0
  have b3 := bel1 w2 (.cells (rg (fun _ => 0) 0).toArray 32)
  exact ⟨(r0.below b2).below b3, by rw [b3.block _ (by omega)]; exact e0, z0, (b1.trans (b2.mono (by omega))).trans (b3.mono (by omega))⟩
theorem Bg.setCell {w W : World} {N : Nat} {R : Nat → Nat} {pc : Nat} {e : Ef} (h : Bg w W N R pc e) {o : Nat} {v : Value} {R' : Nat → Nat} {pc' : Nat} (hr : Rb (W.setCell ⟨N, o, none⟩ v) N R' pc') : Bg w (W.setCell ⟨N, o, none⟩ v) N R' pc' e :=
  ⟨hr, by rw [heap_setCell_other _ _ _ _ (by simp)]; exact h.e, h.z.keep (heap_setCell_other _ _ _ _ (by simp; omega)), h.b.setCell (Nat.le_refl _) _⟩
section
variable (w : World)
set_option maxRecDepth 100000 in
set_option maxHeartbeats 1000000 in
theorem fin_D (R : Nat → Nat) (pc : Nat) (hpc : pc < 4294967296) (e : Ef) (wd : Nat) (hk : e.k = 2) : Calls Tryd.prog 32 #[.agg (rg R pc).toArray, .agg e.cells.toArray, .int .u32 (wd : Nat)] w fun e' w' => e' = .returned (.agg (rg R (nx pc)).toArray) ∧ Below w.heap.size w w' := by
  have HKk := hide hk
  clear hk
  have hB := Bg.new w R pc e
  rw [← rg_zero] at hB
  obtain ⟨ek, ea, er, ev, ec⟩ := e
  simp only [Ef.cells] at *
  go_enter Tryd.func32, Tryd.ntmps32
  go_upto_region 1 with fail
  generalize (((w.alloc (.cells (rg R pc).toArray 32)).alloc (.cells [Value.int .i64 ek, .int .u32 ea, .int .i64 er, .int .u32 ev, .int .i64 ec].toArray 34)).alloc (.cells #[.int .u32 0, .int .u32 0, .int .u32 0, .int .u32 0, .int .u32 0, .int .u32 0, .int .u32 0, .int .u32 0, .int .u32 0] 32)) = w1 at *
  obtain ⟨N, hN⟩ : ∃ N, w.heap.size = N := ⟨_, rfl⟩
  rw [hN] at hB ⊢
  have c0 : w1.cell? ⟨N + 1, 0, none⟩ = some (.int .i64 ek) := by rw [cell_of_row _ _ _ _ _ _ hB.e]; rfl
  have c2 : w1.cell? ⟨N + 1, 2, none⟩ = some (.int .i64 er) := by rw [cell_of_row _ _ _ _ _ _ hB.e]; rfl
  have hk := HKk.out
  subst hk
  have p8 := hB.r.p
  have f8 := hB.r.frz
  have HB := hide hB
  clear hB
  go_upto_region 9 with fail
  have HB2 := hide (HB.out.setCell (rb_nx HB.out.r))
  clear HB c0 c2 p8 f8
  generalize w1.setCell ⟨N, 8, none⟩ (.int .u32 (((pc : Int) + 1) % 4294967296)) = w2 at *
  go_wp2_with (first
    | refine wpList_load_row rfl 32 _ rfl N rfl 32 (rg R (nx pc)).toArray (0, 0) _ HB2.out.r.out Tryd.underlying32 rfl (info_rg _ _) ?_
    | refine wpList_store_row rfl 32 _ _ rfl (N + 1 + 1) (rg R (nx pc)).toArray rfl rfl 32 _ HB2.out.z.out (info_rg _ _) (by rw [rg_size, rg_size]) (rg_one _ _) ?_)
  refine bodyPost_ret (results_cell_row rfl _ _ (N + 1 + 1) 32 (rg R (nx pc)).toArray (0, 0) _ rfl (setRow_heap _ _ _ _ _ _ HB2.out.z.out) Tryd.underlying32 rfl (info_rg _ _)) rfl ?_
  subst hN
  refine ⟨rfl, HB2.out.b.os, HB2.out.b.tape, HB2.out.b.output, by simpa [World.setRow] using HB2.out.b.size, fun k hk => by rw [setRow_other _ _ k _ (by omega)]; exact HB2.out.b.block k hk⟩
set_option maxRecDepth 100000 in
set_option maxHeartbeats 1000000 in
theorem fin_A (R : Nat → Nat) (pc : Nat) (hpc : pc < 4294967296) (e : Ef) (wd : Nat) (hk : e.k = 1) (k : Nat) (hr : e.r = k) (hk8 : k < 8) : Calls Tryd.prog 32 #[.agg (rg R pc).toArray, .agg e.cells.toArray, .int .u32 (wd : Nat)] w fun e' w' => e' = .returned (.agg (rg (put R k wd) (nx pc)).toArray) ∧ Below w.heap.size w w' := by
  have HKk := hide hk
  have HKr := hide hr
  clear hr
  clear hk
  have hB := Bg.new w R pc e
  rw [← rg_zero] at hB
  obtain ⟨ek, ea, er, ev, ec⟩ := e
  simp only [Ef.cells] at *
  go_enter Tryd.func32, Tryd.ntmps32
  go_upto_region 1 with fail
  generalize (((w.alloc (.cells (rg R pc).toArray 32)).alloc (.cells [Value.int .i64 ek, .int .u32 ea, .int .i64 er, .int .u32 ev, .int .i64 ec].toArray 34)).alloc (.cells #[.int .u32 0, .int .u32 0, .int .u32 0, .int .u32 0, .int .u32 0, .int .u32 0, .int .u32 0, .int .u32 0, .int .u32 0] 32)) = w1 at *
  obtain ⟨N, hN⟩ : ∃ N, w.heap.size = N := ⟨_, rfl⟩
  rw [hN] at hB ⊢
  have c0 : w1.cell? ⟨N + 1, 0, none⟩ = some (.int .i64 ek) := by rw [cell_of_row _ _ _ _ _ _ hB.e]; rfl
  have c2 : w1.cell? ⟨N + 1, 2, none⟩ = some (.int .i64 er) := by rw [cell_of_row _ _ _ _ _ _ hB.e]; rfl
  have hk := HKk.out
  subst hk
  have hr := HKr.out
  subst hr
  have p8 := hB.r.p
  have f8 := hB.r.frz
  have ck := hB.r.r hk8
  have k0 : (0 : Int) ≤ (k : Int) := by omega
  have k8 : (k : Int) < 8 := by omega
  have HB := hide hB
  clear hB
  go_upto_region 9 with fail
  have HB1 := hide (HB.out.setCell (HB.out.r.put hk8 wd))
  have HB2 := hide (HB1.out.setCell (rb_nx HB1.out.r))
  clear HB HB1 c0 c2 p8 f8 ck
  generalize (w1.setCell ⟨N, k, none⟩ (.int .u32 (wd : Nat))).setCell ⟨N, 8, none⟩ (.int .u32 (((pc : Int) + 1) % 4294967296)) = w2 at *
  go_wp2_with (first
    | refine wpList_load_row rfl 32 _ rfl N rfl 32 (rg (put R k wd) (nx pc)).toArray (0, 0) _ HB2.out.r.out Tryd.underlying32 rfl (info_rg _ _) ?_
    | refine wpList_store_row rfl 32 _ _ rfl (N + 1 + 1) (rg (put R k wd) (nx pc)).toArray rfl rfl 32 _ HB2.out.z.out (info_rg _ _) (by rw [rg_size, rg_size]) (rg_one _ _) ?_)
  refine bodyPost_ret (results_cell_row rfl _ _ (N + 1 + 1) 32 (rg (put R k wd) (nx pc)).toArray (0, 0) _ rfl (setRow_heap _ _ _ _ _ _ HB2.out.z.out) Tryd.underlying32 rfl (info_rg _ _)) rfl ?_
  subst hN
  refine ⟨rfl, HB2.out.b.os, HB2.out.b.tape, HB2.out.b.output, by simpa [World.setRow] using HB2.out.b.size, fun k hk => by rw [setRow_other _ _ k _ (by omega)]; exact HB2.out.b.block k hk⟩
end
end Go.Proofs.YtoaplkfmchphbaaDoor
