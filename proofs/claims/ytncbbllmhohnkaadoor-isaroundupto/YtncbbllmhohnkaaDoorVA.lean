import Derived.Test.YtncbbllmhohnkaaDoorUV
import Derived.Test.YtncbbllmhohnkaaDoorTD
namespace Go.Proofs.YtncbbllmhohnkaaDoor
open Go.RowKit
/-- a sign that parts nothing -/
def plC (c : UInt8) : Bool := !([32, 9, 44, 58, 59, 10].contains c)
/-- a text of such signs -/
structure Pf (f : Tx) : Prop where
  ne : f ≠ []
  all : ∀ x ∈ f, plC x = true
theorem pl_not {c : UInt8} {ms : Tx} (h : plC c = true) (hm : ∀ x ∈ ms, x ∈ ([32, 9, 44, 58, 59, 10] : Tx)) : ms.contains c = false := by
  cases e : ms.contains c with
  | false => rfl
  | true =>
    have h1 := hm c (List.contains_iff_mem.1 e)
    have h2 : ([32, 9, 44, 58, 59, 10] : Tx).contains c = true := List.contains_iff_mem.2 h1
    unfold plC at h
    rw [h2] at h
    cases h
theorem pl_ne {c m : UInt8} (h : plC c = true) (hm : m ∈ ([32, 9, 44, 58, 59, 10] : Tx)) : (c == m) = false := by
  cases e : (c == m) with
  | false => rfl
  | true =>
    have : c = m := by simpa using e
    subst this
    have h2 : ([32, 9, 44, 58, 59, 10] : Tx).contains c = true := List.contains_iff_mem.2 hm
    unfold plC at h
    rw [h2] at h
    cases h
theorem cut_free (ms : Tx) : ∀ a : Tx, (∀ x ∈ a, ms.contains x = false) → cutT ms a = none
  | [], _ => rfl
  | c :: r, h => by
    rw [cutT, h c (by simp), cut_free ms r fun x hx => h x (by simp [hx])]
    rfl
theorem cut_mark (ms : Tx) (m : UInt8) (b : Tx) (hm : ms.contains m = true) : ∀ a : Tx, (∀ x ∈ a, ms.contains x = false) → cutT ms (a ++ m :: b) = some (a, b)
  | [], _ => by show cutT ms (m :: b) = _; rw [cutT, hm]; rfl
  | c :: r, h => by
    show cutT ms (c :: (r ++ m :: b)) = _
    rw [cutT, h c (by simp), cut_mark ms m b hm r fun x hx => h x (by simp [hx])]
    rfl
/-- nothing to trim -/
theorem trim_id {s : Tx} (h1 : ∀ c, s.head? = some c → plC c = true) (h2 : ∀ c, s.getLast? = some c → plC c = true) : trimT s = s := by
  have nb : ∀ c, plC c = true → ([32, 9] : Tx).contains c = false := fun c h => pl_not h (by decide)
  have e1 : Lib.trimRightS s [32, 9] = s := by
    rw [Lib.trimRightS_take s [32, 9] s.length (Nat.le_refl _) (fun j b hj hb => by rw [List.getElem?_eq_none (by omega)] at hb; cases hb) (fun b _ hb => nb b (h2 b (by rw [List.getLast?_eq_getElem?]; exact hb)))]
    simp
  unfold trimT Lib.trimS
  rw [e1, Lib.trimLeftS_drop s [32, 9] 0 (by omega) (fun j b hj _ => by omega) (fun b hb => nb b (h1 b (by rw [List.head?_eq_getElem?]; exact hb)))]
  rfl
theorem Pf.head {f : Tx} (h : Pf f) : ∀ c, f.head? = some c → plC c = true := fun c hc => h.all c (List.mem_of_mem_head? hc)
theorem Pf.last {f : Tx} (h : Pf f) : ∀ c, f.getLast? = some c → plC c = true := fun c hc => h.all c (List.mem_of_getLast? hc)
theorem Pf.trim {f : Tx} (h : Pf f) : trimT f = f := trim_id h.head h.last
theorem Pf.trim1 {f : Tx} (h : Pf f) : trimT (32 :: f) = f := by
  have h0 := h.trim
  have hl : 0 < f.length := List.length_pos_iff.2 h.ne
  have nb : ∀ c, plC c = true → ([32, 9] : Tx).contains c = false := fun c h => pl_not h (by decide)
  have e1 : Lib.trimRightS (32 :: f) [32, 9] = 32 :: f := by
    rw [Lib.trimRightS_take (32 :: f) [32, 9] (32 :: f).length (Nat.le_refl _) (fun j b hj hb => by rw [List.getElem?_eq_none (by omega)] at hb; cases hb) (fun b _ hb => nb b (h.last b (by
      rw [List.getLast?_eq_getElem?]
      rw [List.length_cons, Nat.add_sub_cancel] at hb
      rw [show f.length = (f.length - 1) + 1 by omega, List.getElem?_cons_succ] at hb
      exact hb)))]
    simp
  unfold trimT Lib.trimS
  rw [e1, Lib.trimLeftS_drop (32 :: f) [32, 9] 1 (by simp) (fun j b hj hb => by
    obtain rfl : j = 0 := by omega
    simp at hb
    subst hb
    decide) (fun b hb => nb b (h.head b (by rw [List.head?_eq_getElem?]; simpa using hb)))]
  rfl
theorem jn_last (fs : List Tx) (hf : ∀ f ∈ fs, Pf f) : ∀ (a : Tx), (∀ c, a.getLast? = some c → plC c = true) → ∀ c, (a ++ jn [44, 32] fs).getLast? = some c → plC c = true := by
  induction fs with
  | nil => intro a ha c hc; exact ha c (by simpa [jn] using hc)
  | cons g r ih =>
    intro a ha c hc
    have hg := hf g (by simp)
    refine ih (fun f h => hf f (by simp [h])) (a ++ 44 :: 32 :: g) (fun c hc => hg.last c ?_) c (by simpa [jn] using hc)
    have hne := hg.ne
    rw [show a ++ 44 :: 32 :: g = (a ++ [44, 32]) ++ g by simp, List.getLast?_append] at hc
    obtain ⟨z, hz⟩ := Option.isSome_iff_exists.1 (List.getLast?_isSome.2 hne)
    rw [hz] at hc ⊢
    simpa using hc
theorem split_jn (fs : List Tx) (hf : ∀ f ∈ fs, Pf f) : ∀ (a : Tx), (∀ x ∈ a, (x == (44 : UInt8)) = false) → splitT 44 (a ++ jn [44, 32] fs) = a :: fs.map (32 :: ·) := by
  induction fs with
  | nil => intro a ha; simp only [jn, List.append_nil, List.map_nil]; exact split_end 44 a ha
  | cons g r ih =>
    intro a ha
    have hg := hf g (by simp)
    rw [show a ++ jn [44, 32] (g :: r) = a ++ 44 :: ((32 :: g) ++ jn [44, 32] r) by simp [jn], split_mark 44 a _ ha, ih (fun f h => hf f (by simp [h])) (32 :: g) (fun x hx => by
      rcases List.mem_cons.1 hx with rfl | h
      · decide
      · exact pl_ne (hg.all x h) (by decide))]
    rfl
theorem sf_jn {f : Tx} {r : List Tx} (h : Pf f) (hr : ∀ g ∈ r, Pf g) : sfT (f ++ jn [44, 32] r) = f :: r := by
  have ht : trimT (f ++ jn [44, 32] r) = f ++ jn [44, 32] r := trim_id (fun c hc => h.head c (by
    obtain ⟨z, hz⟩ := Option.isSome_iff_exists.1 (List.isSome_head?.2 h.ne)
    rw [List.head?_append, hz] at hc
    rw [hz]
    simpa using hc)) (jn_last r hr f h.last)
  unfold sfT
  rw [ht, if_neg (by have := h.ne; simp [this]), split_jn r hr f fun x hx => pl_ne (h.all x hx) (by decide)]
  rw [List.map_cons, h.trim, List.map_map]
  congr 1
  conv => rhs; rw [← List.map_id r]
  exact List.map_congr_left fun g hg => (hr g hg).trim1
theorem jn_all (ms : Tx) (h44 : ms.contains 44 = false) (h32 : ms.contains 32 = false) (hm : ∀ x ∈ ms, x ∈ ([32, 9, 44, 58, 59, 10] : Tx)) (fs : List Tx) (hf : ∀ f ∈ fs, Pf f) : ∀ sep : Tx, (∀ x ∈ sep, ms.contains x = false) → ∀ x ∈ jn sep fs, ms.contains x = false := by
  induction fs with
  | nil => intro sep _ x hx; simp [jn] at hx
  | cons g r ih =>
    intro sep hs x hx
    rw [jn] at hx
    rcases List.mem_append.1 hx with h | h
    · exact hs x h
    · rcases List.mem_append.1 h with h | h
      · exact pl_not ((hf g (by simp)).all x h) hm
      · refine ih (fun f h => hf f (by simp [h])) [44, 32] (fun y hy => ?_) x h
        rcases List.mem_cons.1 hy with rfl | hy
        · exact h44
        · obtain rfl : y = 32 := by simpa using hy
          exact h32
theorem line_all (ms : Tx) (h44 : ms.contains 44 = false) (h32 : ms.contains 32 = false) (hm : ∀ x ∈ ms, x ∈ ([32, 9, 44, 58, 59, 10] : Tx)) {name : Tx} {fs : List Tx} (hn : Pf name) (hf : ∀ f ∈ fs, Pf f) : ∀ x ∈ name ++ jn [32] fs, ms.contains x = false := by
  intro x hx
  rcases List.mem_append.1 hx with h | h
  · exact pl_not (hn.all x h) hm
  · exact jn_all ms h44 h32 hm fs hf [32] (fun y hy => by obtain rfl : y = 32 := by simpa using hy
                                                          exact h32) x h
/-- a line of a name and its fields -/
theorem line_of {name : Tx} {fs : List Tx} (hn : Pf name) (hf : ∀ f ∈ fs, Pf f) : lineT (name ++ jn [32] fs) = (stmT name fs).getD lnBad := by
  have ht : trimT (name ++ jn [32] fs) = name ++ jn [32] fs := by
    refine trim_id (fun c hc => hn.head c (by
      obtain ⟨z, hz⟩ := Option.isSome_iff_exists.1 (List.isSome_head?.2 hn.ne)
      rw [List.head?_append, hz] at hc
      rw [hz]
      simpa using hc)) ?_
    cases fs with
    | nil => simpa [jn] using hn.last
    | cons f r =>
      have hff := hf f (by simp)
      rw [jn, ← List.append_assoc, ← List.append_assoc]
      refine jn_last r (fun g hg => hf g (by simp [hg])) _ fun c hc => hff.last c ?_
      obtain ⟨z, hz⟩ := Option.isSome_iff_exists.1 (List.getLast?_isSome.2 hff.ne)
      rw [List.getLast?_append, hz] at hc
      rw [hz]
      simpa using hc
  unfold lineT
  rw [cut_free [59] _ (line_all [59] (by decide) (by decide) (by decide) hn hf)]
  simp only [Option.getD_none]
  rw [ht, cut_free [58] _ (line_all [58] (by decide) (by decide) (by decide) hn hf)]
  simp only []
  unfold stT
  rw [if_neg (by have := hn.ne; simp [this])]
  cases fs with
  | nil =>
    simp only [jn, List.append_nil]
    rw [cut_free [32, 9] name fun x hx => pl_not (hn.all x hx) (by decide)]
    rfl
  | cons f r =>
    rw [show name ++ jn [32] (f :: r) = name ++ 32 :: (f ++ jn [44, 32] r) by simp [jn], cut_mark [32, 9] 32 _ (by decide) name fun x hx => pl_not (hn.all x hx) (by decide)]
    simp only [Option.getD_some]
    rw [sf_jn (hf f (by simp)) fun g hg => hf g (by simp [hg])]
/-- the digits of a number -/
theorem digV_dec {k : Nat} (h : k < 10) : digV (UInt8.ofNat (48 + k)) = k := by
  have : ∀ k : Fin 10, digV (UInt8.ofNat (48 + k.val)) = k.val := by decide
  exact this ⟨k, h⟩
theorem dec_ne (u : Nat) : Lib.decDigits u ≠ [] := by
  have := Lib.decDigits_length u
  have h2 := Lib.nDigits_pos u
  intro e
  rw [e] at this
  simp at this
  omega
theorem dec_dig (u : Nat) : ∀ x ∈ Lib.decDigits u, isDig x = true := by
  induction u using Nat.strongRecOn with
  | _ u ih =>
    have hd : ∀ k : Fin 10, isDig (UInt8.ofNat (48 + k.val)) = true := by decide
    by_cases h : u < 10
    · rw [Lib.decDigits, dif_pos h]
      intro x hx
      obtain rfl : x = UInt8.ofNat (48 + u) := by simpa using hx
      exact hd ⟨u, h⟩
    · rw [Lib.decDigits, dif_neg h]
      intro x hx
      rcases List.mem_append.1 hx with h1 | h1
      · exact ih (u / 10) (by omega) x h1
      · obtain rfl : x = UInt8.ofNat (48 + u % 10) := by simpa using h1
        exact hd ⟨u % 10, Nat.mod_lt _ (by decide)⟩
theorem numF_dec (u : Nat) : numF 10 0 (Lib.decDigits u) = some u := by
  induction u using Nat.strongRecOn with
  | _ u ih =>
    by_cases h : u < 10
    · rw [Lib.decDigits, dif_pos h]
      rw [numF, digV_dec h, if_pos h, numF]
      congr 1
      omega
    · rw [Lib.decDigits, dif_neg h, numF_snoc, ih (u / 10) (by omega), digV_dec (Nat.mod_lt _ (by decide))]
      simp only [Option.bind_some]
      rw [if_pos (Nat.mod_lt _ (by decide))]
      congr 1
      omega
theorem dig_pl {c : UInt8} (h : isDig c = true) : plC c = true := by
  cases e : plC c with
  | true => rfl
  | false =>
    unfold plC at e
    have h1 : c ∈ ([32, 9, 44, 58, 59, 10] : Tx) := List.contains_iff_mem.1 (by rw [Bool.not_eq_false'] at e; exact e)
    have h2 : ∀ x ∈ ([32, 9, 44, 58, 59, 10] : Tx), isDig x = false := by decide
    rw [h2 c h1] at h
    cases h
theorem dig_let {c : UInt8} (h : isDig c = true) : isLet c = false := by
  unfold isDig at h
  unfold isLet
  simp at h ⊢
  omega
theorem dig_abs {s : Tx} (h : ∀ x ∈ s, isDig x = true) : Lib.hasPrefix s [45] = false ∧ Lib.hasPrefix s [48, 120] = false := by
  have h45 : isDig 45 = false := by decide
  have h120 : isDig 120 = false := by decide
  constructor
  · cases e : Lib.hasPrefix s [45] with
    | false => rfl
    | true =>
      obtain ⟨t, rfl⟩ := List.isPrefixOf_iff_prefix.1 e
      have := h 45 (by simp)
      rw [h45] at this
      cases this
  · cases e : Lib.hasPrefix s [48, 120] with
    | false => rfl
    | true =>
      obtain ⟨t, rfl⟩ := List.isPrefixOf_iff_prefix.1 e
      have := h 120 (by simp)
      rw [h120] at this
      cases this
/-- a number within ten digits is read again -/
theorem num_dec {u : Nat} (h : u < 10000000000) : numT (Lib.decDigits u) = some (u : Int) ∧ numT (45 :: Lib.decDigits u) = some (-(u : Int)) := by
  obtain ⟨p1, p2⟩ := dig_abs (dec_dig u)
  have hl : (Lib.decDigits u).length ≤ 10 := by
    rw [Lib.decDigits_length]
    by_cases h0 : Lib.nDigits u ≤ 10
    · exact h0
    · exfalso
      have h1 : ∀ v : Nat, 10 ^ (Lib.nDigits v - 1) ≤ v ∨ v = 0 := fun v => by
        induction v using Nat.strongRecOn with
        | _ v ih =>
          by_cases h : v < 10
          · rw [Lib.nDigits_small h]; simp; omega
          · rw [Lib.nDigits_big h, Nat.add_sub_cancel]
            left
            rcases ih (v / 10) (by omega) with h2 | h2
            · have := Lib.nDigits_pos (v / 10)
              rw [show Lib.nDigits (v / 10) = (Lib.nDigits (v / 10) - 1) + 1 by omega, Nat.pow_succ]
              omega
            · omega
      have h3 : 10 ^ 10 ≤ 10 ^ (Lib.nDigits u - 1) := Nat.pow_le_pow_right (by decide) (by omega)
      rcases h1 u with h2 | h2
      · have : (10 : Nat) ^ 10 = 10000000000 := by decide
        omega
      · subst h2
        rw [Lib.nDigits_small (by decide)] at h0
        omega
  have hne : (Lib.decDigits u).length ≠ 0 := fun e => dec_ne u (List.eq_nil_of_length_eq_zero e)
  have a1 : absT (Lib.decDigits u) = Lib.decDigits u := by unfold absT Lib.trimPrefix; rw [p1]; rfl
  have a2 : absT (45 :: Lib.decDigits u) = Lib.decDigits u := by unfold absT Lib.trimPrefix Lib.hasPrefix; simp
  have d1 : digT (Lib.decDigits u) = Lib.decDigits u := by unfold digT Lib.trimPrefix; rw [p2]; rfl
  have b1 : basT (Lib.decDigits u) = 10 := by unfold basT hexT; rw [p2]; rfl
  have b2 : mosT (Lib.decDigits u) = 10 := by unfold mosT hexT; rw [p2]; rfl
  constructor
  · unfold numT
    rw [a1, d1, b1, b2, if_neg (by omega), numF_dec, show minT (Lib.decDigits u) = false from p1]
    rfl
  · unfold numT
    rw [a2, d1, b1, b2, if_neg (by omega), numF_dec, show minT (45 :: Lib.decDigits u) = true by unfold minT Lib.hasPrefix; simp]
    rfl
theorem num_itoa {z : Int} (h1 : -10000000000 < z) (h2 : z < 10000000000) : numT (Lib.itoa z) = some z := by
  unfold Lib.itoa
  split
  · rw [(num_dec (u := z.natAbs) (by omega)).2]; congr 1; omega
  · rw [(num_dec (u := z.toNat) (by omega)).1]; congr 1; omega
theorem lbl_dec (u : Nat) : isLbl (Lib.decDigits u) = false := by
  have h := dec_dig u
  cases e : Lib.decDigits u with
  | nil => rfl
  | cons c r => rw [e] at h; simp [isLbl, dig_let (h c (by simp))]
theorem lbl_itoa (z : Int) : isLbl (Lib.itoa z) = false := by
  unfold Lib.itoa
  split
  · rfl
  · exact lbl_dec _
theorem pf_dec (u : Nat) : Pf (Lib.decDigits u) := ⟨dec_ne u, fun x hx => dig_pl (dec_dig u x hx)⟩
theorem Pf.cons {f : Tx} {c : UInt8} (h : Pf f) (hc : plC c = true) : Pf (c :: f) := ⟨by simp, fun x hx => by
  rcases List.mem_cons.1 hx with rfl | h1
  · exact hc
  · exact h.all x h1⟩
theorem pf_itoa (z : Int) : Pf (Lib.itoa z) := by
  unfold Lib.itoa
  split
  · exact (pf_dec _).cons (by decide)
  · exact pf_dec _
theorem reg_itoa {k : Nat} (h : k < 8) : regT (114 :: Lib.itoa (k : Int)) = some k := by
  rw [Lib.itoa_nonneg, Lib.decDigits_one (by omega)]
  have : ∀ k : Fin 8, regT [114, UInt8.ofNat (48 + k.val)] = some k.val := by decide
  exact this ⟨k, h⟩
end Go.Proofs.YtncbbllmhohnkaaDoor
