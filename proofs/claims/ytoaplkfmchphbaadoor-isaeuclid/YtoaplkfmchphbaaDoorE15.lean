import Derived.Test.YtoaplkfmchphbaaDoorE03
import Derived.Test.YtoaplkfmchphbaaDoorE13
namespace Go.Proofs.YtoaplkfmchphbaaDoor
open Go.RowKit
/-- a sign that parts nothing -/
def plC (c : UInt8) : Bool := !([32, 9, 44, 58, 59, 10].contains c)
/-- a text of such signs -/
structure Pf (f : Tx) : Prop where
  ne : f ≠ []
  all : ∀ x ∈ f, plC x = true
theorem pl_not {c : UInt8} {ms : Tx} (h : plC c = true) (hm : ∀ x ∈ ms, x ∈ ([32, 9, 44, 58, 59, 10] : Tx)) : ms.contains c = false := by
  cases e : ms.contains c with
  | false => rfl
  | true =>
    have h1 := hm c (List.contains_iff_mem.1 e)
    have h2 : ([32, 9, 44, 58, 59, 10] : Tx).contains c = true := List.contains_iff_mem.2 h1
    unfold plC at h
    rw [h2] at h
    cases h
theorem pl_ne {c m : UInt8} (h : plC c = true) (hm : m ∈ ([32, 9, 44, 58, 59, 10] : Tx)) : (c == m) = false := by
  cases e : (c == m) with
  | false => rfl
  | true =>
    have : c = m := by simpa using e
    subst this
    have h2 : ([32, 9, 44, 58, 59, 10] : Tx).contains c = true := List.contains_iff_mem.2 hm
    unfold plC at h
    rw [h2] at h
    cases h
theorem cut_free (ms : Tx) : ∀ a : Tx, (∀ x ∈ a, ms.contains x = false) → cutT ms a = none
  | [], _ => rfl
  | c :: r, h => by
    rw [cutT, h c (by simp), cut_free ms r fun x hx => h x (by simp [hx])]
    rfl
theorem cut_mark (ms : Tx) (m : UInt8) (b : Tx) (hm : ms.contains m = true) : ∀ a : Tx, (∀ x ∈ a, ms.contains x = false) → cutT ms (a ++ m :: b) = some (a, b)
  | [], _ => by show cutT ms (m :: b) = _; rw [cutT, hm]; rfl
  | c :: r, h => by
    show cutT ms (c :: (r ++ m :: b)) = _
    rw [cutT, h c (by simp), cut_mark ms m b hm r fun x hx => h x (by simp [hx])]
    rfl
/-- nothing to trim -/
theorem trim_id {s : Tx} (h1 : ∀ c, s.head? = some c → plC c = true) (h2 : ∀ c, s.getLast? = some c → plC c = true) : trimT s = s := by
  have nb : ∀ c, plC c = true → ([32, 9] : Tx).contains c = false := fun c h => pl_not h (by decide)
  have e1 : Lib.trimRightS s [32, 9] = s := by
    rw [Lib.trimRightS_take s [32, 9] s.length (Nat.le_refl _) (fun j b hj hb => by rw [List.getElem?_eq_none (by omega)] at hb; cases hb) (fun b _ hb => nb b (h2 b (by rw [List.getLast?_eq_getElem?]; exact hb)))]
    simp
  unfold trimT Lib.trimS
  rw [e1, Lib.trimLeftS_drop s [32, 9] 0 (by omega) (fun j b hj _ => by omega) (fun b hb => nb b (h1 b (by rw [List.head?_eq_getElem?]; exact hb)))]
  rfl
theorem Pf.head {f : Tx} (h : Pf f) : ∀ c, f.head? = some c → plC c = true := fun c hc => h.all c (List.mem_of_mem_head? hc)
theorem Pf.last {f : Tx} (h : Pf f) : ∀ c, f.getLast? = some c → plC c = true := fun c hc => h.all c (List.mem_of_getLast? hc)
theorem Pf.trim {f : Tx} (h : Pf f) : trimT f = f := trim_id h.head h.last
theorem Pf.trim1 {f : Tx} (h : Pf f) : trimT (32 :: f) = f := by
  have h0 := h.trim
  have hl : 0 < f.length := List.length_pos_iff.2 h.ne
  have nb : ∀ c, plC c = true → ([32, 9] : Tx).contains c = false := fun c h => pl_not h (by decide)
  have e1 : Lib.trimRightS (32 :: f) [32, 9] = 32 :: f := by
    rw [Lib.trimRightS_take (32 :: f) [32, 9] (32 :: f).length (Nat.le_refl _) (fun j b hj hb => by rw [List.getElem?_eq_none (by omega)] at hb; cases hb) (fun b _ hb => nb b (h.last b (by
      rw [List.getLast?_eq_getElem?]
      rw [List.length_cons, Nat.add_sub_cancel] at hb
      rw [show f.length = (f.length - 1) + 1 by omega, List.getElem?_cons_succ] at hb
      exact hb)))]
    simp
  unfold trimT Lib.trimS
  rw [e1, Lib.trimLeftS_drop (32 :: f) [32, 9] 1 (by simp) (fun j b hj hb => by
    obtain rfl : j = 0 := by omega
    simp at hb
    subst hb
    decide) (fun b hb => nb b (h.head b (by rw [List.head?_eq_getElem?]; simpa using hb)))]
  rfl
theorem jn_last (fs : List Tx) (hf : ∀ f ∈ fs, Pf f) : ∀ (a : Tx), (∀ c, a.getLast? = some c → plC c = true) → ∀ c, (a ++ jn [44, 32] fs).getLast? = some c → plC c = true := by
  induction fs with
  | nil => intro a ha c hc; exact ha c (by simpa [jn] using hc)
  | cons g r ih =>
    intro a ha c hc
    have hg := hf g (by simp)
    refine ih (fun f h => hf f (by simp [h])) (a ++ 44 :: 32 :: g) (fun c hc => hg.last c ?_) c (by simpa [jn] using hc)
    have hne := hg.ne
    rw [show a ++ 44 :: 32 :: g = (a ++ [44, 32]) ++ g by simp, List.getLast?_append] at hc
    obtain ⟨z, hz⟩ := Option.isSome_iff_exists.1 (List.getLast?_isSome.2 hne)
    rw [hz] at hc ⊢
    simpa using hc
theorem split_jn (fs : List Tx) (hf : ∀ f ∈ fs, Pf f) : ∀ (a : Tx), (∀ x ∈ a, (x == (44 : UInt8)) = false) → splitT 44 (a ++ jn [44, 32] fs) = a :: fs.map (32 :: ·) := by
  induction fs with
  | nil => intro a ha; simp only [jn, List.append_nil, List.map_nil]; exact split_end 44 a ha
  | cons g r ih =>
    intro a ha
    have hg := hf g (by simp)
    rw [show a ++ jn [44, 32] (g :: r) = a ++ 44 :: ((32 :: g) ++ jn [44, 32] r) by simp [jn], split_mark 44 a _ ha, ih (fun f h => hf f (by simp [h])) (32 :: g) (fun x hx => by
      rcases List.mem_cons.1 hx with rfl | h
      · decide
      · exact pl_ne (hg.all x h) (by decide))]
    rfl
theorem sf_jn {f : Tx} {r : List Tx} (h : Pf f) (hr : ∀ g ∈ r, Pf g) : sfT (f ++ jn [44, 32] r) = f :: r := by
  have ht : trimT (f ++ jn [44, 32] r) = f ++ jn [44, 32] r := trim_id (fun c hc => h.head c (by
    obtain ⟨z, hz⟩ := Option.isSome_iff_exists.1 (List.isSome_head?.2 h.ne)
    rw [List.head?_append, hz] at hc
    rw [hz]
    simpa using hc)) (jn_last r hr f h.last)
  unfold sfT
  rw [ht, if_neg (by have := h.ne; simp [this]), split_jn r hr f fun x hx => pl_ne (h.all x hx) (by decide)]
  rw [List.map_cons, h.trim, List.map_map]
  congr 1
  conv => rhs; rw [← List.map_id r]
  exact List.map_congr_left fun g hg => (hr g hg).trim1
theorem jn_all (ms : Tx) (h44 : ms.contains 44 = false) (h32 : ms.contains 32 = false) (hm : ∀ x ∈ ms, x ∈ ([32, 9, 44, 58, 59, 10] : Tx)) (fs : List Tx) (hf : ∀ f ∈ fs, Pf f) : ∀ sep : Tx, (∀ x ∈ sep, ms.contains x = false) → ∀ x ∈ jn sep fs, ms.contains x = false := by
  induction fs with
  | nil => intro sep _ x hx; simp [jn] at hx
  | cons g r ih =>
    intro sep hs x hx
    rw [jn] at hx
    rcases List.mem_append.1 hx with h | h
    · exact hs x h
    · rcases List.mem_append.1 h with h | h
      · exact pl_not ((hf g (by simp)).all x h) hm
      · refine ih (fun f h => hf f (by simp [h])) [44, 32] (fun y hy => ?_) x h
        rcases List.mem_cons.1 hy with rfl | hy
        · exact h44
        · obtain rfl : y = 32 := by simpa using hy
          exact h32
theorem line_all (ms : Tx) (h44 : ms.contains 44 = false) (h32 : ms.contains 32 = false) (hm : ∀ x ∈ ms, x ∈ ([32, 9, 44, 58, 59, 10] : Tx)) {name : Tx} {fs : List Tx} (hn : Pf name) (hf : ∀ f ∈ fs, Pf f) : ∀ x ∈ name ++ jn [32] fs, ms.contains x = false := by
  intro x hx
  rcases List.mem_append.1 hx with h | h
  · exact pl_not (hn.all x h) hm
  · exact jn_all ms h44 h32 hm fs hf [32] (fun y hy => by obtain rfl : y = 32 := by simpa using hy
                                                          exact h32) x h
/-- a line of a name and its fields -/
theorem line_of {name : Tx} {fs : List Tx} (hn : Pf name) (hf : ∀ f ∈ fs, Pf f) : lineT (name ++ jn [32] fs) = (stmT name fs).getD lnBad := by
  have ht : trimT (name ++ jn [32] fs) = name ++ jn [32] fs := by
    refine trim_id (fun c hc => hn.head c (by
      obtain ⟨z, hz⟩ := Option.isSome_iff_exists.1 (List.isSome_head?.2 hn.ne)
      rw [List.head?_append, hz] at hc
      rw [hz]
      simpa using hc)) ?_
    cases fs with
    | nil => simpa [jn] using hn.last
    | cons f r =>
      have hff := hf f (by simp)
      rw [jn, ← List.append_assoc, ← List.append_assoc]
      refine jn_last r (fun g hg => hf g (by simp [hg])) _ fun c hc => hff.last c ?_
      obtain ⟨z, hz⟩ := Option.isSome_iff_exists.1 (List.getLast?_isSome.2 hff.ne)
      rw [List.getLast?_append, hz] at hc
      rw [hz]
      simpa using hc
  unfold lineT
  rw [cut_free [59] _ (line_all [59] (by decide) (by decide) (by decide) hn hf)]
  simp only [Option.getD_none]
  rw [ht, cut_free [58] _ (line_all [58] (by decide) (by decide) (by decide) hn hf)]
  simp only []
  unfold stT
  rw [if_neg (by have := hn.ne; simp [this])]
  cases fs with
  | nil =>
    simp only [jn, List.append_nil]
    rw [cut_free [32, 9] name fun x hx => pl_not (hn.all x hx) (by decide)]
    rfl
  | cons f r =>
    rw [show name ++ jn [32] (f :: r) = name ++ 32 :: (f ++ jn [44, 32] r) by simp [jn], cut_mark [32, 9] 32 _ (by decide) name fun x hx => pl_not (hn.all x hx) (by decide)]
    simp only [Option.getD_some]
    rw [sf_jn (hf f (by simp)) fun g hg => hf g (by simp [hg])]
/-- the digits of a number -/
theorem digV_dec {k : Nat} (h : k < 10) : digV (UInt8.ofNat (48 + k)) = k := by
  have : ∀ k : Fin 10, digV (UInt8.ofNat (48 + k.val)) = k.val := by decide
  exact this ⟨k, h⟩
theorem dec_ne (u : Nat) : Lib.decDigits u ≠ [] := by
  have := Lib.decDigits_length u
  have h2 := Lib.nDigits_pos u
  intro e
  rw [e] at this
  simp at this
  omega
theorem dec_dig (u : Nat) : ∀ x ∈ Lib.decDigits u, isDig x = true := by
  induction u using Nat.strongRecOn with
  | _ u ih =>
    have hd : ∀ k : Fin 10, isDig (UInt8.ofNat (48 + k.val)) = true := by decide
    by_cases h : u < 10
    · rw [Lib.decDigits, dif_pos h]
      intro x hx
      obtain rfl : x = UInt8.ofNat (48 + u) := by simpa using hx
      exact hd ⟨u, h⟩
    · rw [Lib.decDigits, dif_neg h]
      intro x hx
      rcases List.mem_append.1 hx with h1 | h1
      · exact ih (u / 10) (by omega) x h1
      · obtain rfl : x = UInt8.ofNat (48 + u % 10) := by simpa using h1
        exact hd ⟨u % 10, Nat.mod_lt _ (by decide)⟩
theorem numF_dec (u : Nat) : numF 10 0 (Lib.decDigits u) = some u := by
  induction u using Nat.strongRecOn with
  | _ u ih =>
    by_cases h : u < 10
    · rw [Lib.decDigits, dif_pos h]
      rw [numF, digV_dec h, if_pos h, numF]
      congr 1
      omega
    · rw [Lib.decDigits, dif_neg h, numF_snoc, ih (u / 10) (by omega), digV_dec (Nat.mod_lt _ (by decide))]
      simp only [Option.bind_some]
      rw [if_pos (Nat.mod_lt _ (by decide))]
      congr 1
      omega
theorem dig_pl {c : UInt8} (h : isDig c = true) : plC c = true := by
  cases e : plC c with
  | true => rfl
  | false =>
    unfold plC at e
    have h1 : c ∈ ([32, 9, 44, 58, 59, 10] : Tx) := List.contains_iff_mem.1 (by rw [Bool.not_eq_false'] at e; exact e)
    have h2 : ∀ x ∈ ([32, 9, 44, 58, 59, 10] : Tx), isDig x = false := by decide
    rw [h2 c h1] at h
    cases h
theorem dig_let {c : UInt8} (h : isDig c = true) : isLet c = false := by
  unfold isDig at h
  unfold isLet
  simp at h ⊢
  omega
theorem dig_abs {s : Tx} (h : ∀ x ∈ s, isDig x = true) : Lib.hasPrefix s [45] = false ∧ Lib.hasPrefix s [48, 120] = false := by
  have h45 : isDig 45 = false := by decide
  have h120 : isDig 120 = false := by decide
  constructor
  · cases e : Lib.hasPrefix s [45] with
    | false => rfl
    | true =>
      obtain ⟨t, rfl⟩ := List.isPrefixOf_iff_prefix.1 e
      have := h 45 (by simp)
      rw [h45] at this
      cases this
  · cases e : Lib.hasPrefix s [48, 120] with
    | false => rfl
    | true =>
      obtain ⟨t, rfl⟩ := List.isPrefixOf_iff_prefix.1 e
      have := h 120 (by simp)
      rw [h120] at this
      cases this
/-- a number within ten digits is read again -/
theorem num_dec {u : Nat} (h : u < 10000000000) : numT (Lib.decDigits u) = some (u : Int) ∧ numT (45 :: Lib.decDigits u) = some (-(u : Int)) := by
  obtain ⟨p1, p2⟩ := dig_abs (dec_dig u)
  have hl : (Lib.decDigits u).length ≤ 10 := by
    rw [Lib.decDigits_length]
    by_cases h0 : Lib.nDigits u ≤ 10
    · exact h0
    · exfalso
      have h1 : ∀ v : Nat, 10 ^ (Lib.nDigits v - 1) ≤ v ∨ v = 0 := fun v => by
        induction v using Nat.strongRecOn with
        | _ v ih =>
          by_cases h : v < 10
          · rw [Lib.nDigits_small h]; simp; omega
          · rw [Lib.nDigits_big h, Nat.add_sub_cancel]
            left
            rcases ih (v / 10) (by omega) with h2 | h2
            · have := Lib.nDigits_pos (v / 10)
              rw [show Lib.nDigits (v / 10) = (Lib.nDigits (v / 10) - 1) + 1 by omega, Nat.pow_succ]
              omega
            · omega
      have h3 : 10 ^ 10 ≤ 10 ^ (Lib.nDigits u - 1) := Nat.pow_le_pow_right (by decide) (by omega)
      rcases h1 u with h2 | h2
      · have : (10 : Nat) ^ 10 = 10000000000 := by decide
        omega
      · subst h2
        rw [Lib.nDigits_small (by decide)] at h0
        omega
  have hne : (Lib.decDigits u).length ≠ 0 := fun e => dec_ne u (List.eq_nil_of_length_eq_zero e)
  have a1 : absT (Lib.decDigits u) = Lib.decDigits u := by unfold absT Lib.trimPrefix; rw [p1]; rfl
  have a2 : absT (45 :: Lib.decDigits u) = Lib.decDigits u := by unfold absT Lib.trimPrefix Lib.hasPrefix; simp
  have d1 : digT (Lib.decDigits u) = Lib.decDigits u := by unfold digT Lib.trimPrefix; rw [p2]; rfl
  have b1 : basT (Lib.decDigits u) = 10 := by unfold basT hexT; rw [p2]; rfl
  have b2 : mosT (Lib.decDigits u) = 10 := by unfold mosT hexT; rw [p2]; rfl
  constructor
  · unfold numT
    rw [a1, d1, b1, b2, if_neg (by omega), numF_dec, show minT (Lib.decDigits u) = false from p1]
    rfl
  · unfold numT
    rw [a2, d1, b1, b2, if_neg (by omega), numF_dec, show minT (45 :: Lib.decDigits u) = true by unfold minT Lib.hasPrefix; simp]
    rfl
theorem num_itoa {z : Int} (h1 : -10000000000 < z) (h2 : z < 10000000000) : numT (Lib.itoa z) = some z := by
  unfold Lib.itoa
  split
  · rw [(num_dec (u := z.natAbs) (by omega)).2]; congr 1; omega
  · rw [(num_dec (u := z.toNat) (by omega)).1]; congr 1; omega
theorem lbl_dec (u : Nat) : isLbl (Lib.decDigits u) = false := by
  have h := dec_dig u
  cases e : Lib.decDigits u with
  | nil => rfl
  | cons c r => rw [e] at h; simp [isLbl, dig_let (h c (by simp))]
theorem lbl_itoa (z : Int) : isLbl (Lib.itoa z) = false := by
  unfold Lib.itoa
  split
  · rfl
  · exact lbl_dec _
theorem pf_dec (u : Nat) : Pf (Lib.decDigits u) := ⟨dec_ne u, fun x hx => dig_pl (dec_dig u x hx)⟩
theorem Pf.cons {f : Tx} {c : UInt8} (h : Pf f) (hc : plC c = true) : Pf (c :: f) := ⟨by simp, fun x hx => by
  rcases List.mem_cons.1 hx with rfl | h1
  · exact hc
  · exact h.all x h1⟩
theorem pf_itoa (z : Int) : Pf (Lib.itoa z) := by
  unfold Lib.itoa
  split
  · exact (pf_dec _).cons (by decide)
  · exact pf_dec _
theorem reg_itoa {k : Nat} (h : k < 8) : regT (114 :: Lib.itoa (k : Int)) = some k := by
  rw [Lib.itoa_nonneg, Lib.decDigits_one (by omega)]
  have : ∀ k : Fin 8, regT [114, UInt8.ofNat (48 + k.val)] = some k.val := by decide
  exact this ⟨k, h⟩
end Go.Proofs.YtoaplkfmchphbaaDoor

namespace Go.Proofs.YtoaplkfmchphbaaDoor
open Go.RowKit
theorem digV_hd {k : Nat} (h : k < 16) : digV (hd k) = k := by
  have : ∀ k : Fin 16, digV (hd k.val) = k.val := by decide
  exact this ⟨k, h⟩
theorem hd_pl {k : Nat} (h : k < 16) : plC (hd k) = true := by
  have : ∀ k : Fin 16, plC (hd k.val) = true := by decide
  exact this ⟨k, h⟩
theorem pf_hx (n : Nat) : Pf (48 :: 120 :: hx8 n) := by
  refine Pf.cons (Pf.cons ⟨by simp [hx8], fun x hx => ?_⟩ (by decide)) (by decide)
  simp only [hx8, List.mem_cons, List.not_mem_nil, or_false] at hx
  rcases hx with rfl | rfl | rfl | rfl | rfl | rfl | rfl | rfl <;> exact hd_pl (Nat.mod_lt _ (by decide))
theorem numF_hx {n : Nat} (h : n < 4294967296) : numF 16 0 (hx8 n) = some n := by
  have m : ∀ a : Nat, a % 16 < 16 := fun a => Nat.mod_lt _ (by decide)
  simp only [hx8, numF, digV_hd (m _), if_pos (m _)]
  congr 1
  omega
theorem num_hx {n : Nat} (h : n < 4294967296) : numT (48 :: 120 :: hx8 n) = some (n : Int) := by
  have a1 : absT (48 :: 120 :: hx8 n) = 48 :: 120 :: hx8 n := by unfold absT Lib.trimPrefix Lib.hasPrefix; simp
  have d1 : digT (48 :: 120 :: hx8 n) = hx8 n := by unfold digT Lib.trimPrefix Lib.hasPrefix; simp
  have b0 : hexT (48 :: 120 :: hx8 n) = true := by unfold hexT Lib.hasPrefix; simp
  have b1 : basT (48 :: 120 :: hx8 n) = 16 := by unfold basT; rw [b0]; rfl
  have b2 : mosT (48 :: 120 :: hx8 n) = 8 := by unfold mosT; rw [b0]; rfl
  unfold numT
  rw [a1, d1, b1, b2, if_neg (by simp [hx8]), numF_hx h, show minT (48 :: 120 :: hx8 n) = false from rfl]
  rfl
theorem nm_pf {no : Nat} (h1 : 1 ≤ no) (h2 : no < 27) : Pf (nm no) := by
  have : ∀ k : Fin 27, k.val ≠ 0 → nm k.val ≠ [] ∧ (nm k.val).all plC = true := by decide
  obtain ⟨a, b⟩ := this ⟨no, h2⟩ (by show no ≠ 0; omega)
  exact ⟨a, List.all_eq_true.1 b⟩
theorem opT_nm {no : Nat} (h1 : 1 ≤ no) (h2 : no < 27) : opT (nm no) = no := by
  have : ∀ k : Fin 27, k.val ≠ 0 → opT (nm k.val) = k.val := by decide +kernel
  exact this ⟨no, h2⟩ (by show no ≠ 0; omega)
theorem nm_dir {no : Nat} (h2 : no < 27) : nm no ≠ [46, 119, 111, 114, 100] ∧ nm no ≠ [46, 122, 101, 114, 111] := by
  have : ∀ k : Fin 27, nm k.val ≠ [46, 119, 111, 114, 100] ∧ nm k.val ≠ [46, 122, 101, 114, 111] := by decide
  exact this ⟨no, h2⟩
/-- the line that a told word is -/
def lnW (n : Nat) : Ln := { ln0 with i := if isI (parts n) then parts n else ⟨0, 0, 0, (n : Int)⟩, words := 1 }
def tlN (n : Nat) : Tx := if isI (parts n) then nm (parts n).op.toNat else [46, 119, 111, 114, 100]
def tlF (n : Nat) : List Tx := if isI (parts n) then flds (parts n) else [48 :: 120 :: hx8 n]
theorem tl_eq (n : Nat) : tl n = tlN n ++ jn [32] (tlF n) := by
  unfold tl tlN tlF
  split
  · rfl
  · simp [jn]
theorem tlN_pf (n : Nat) : Pf (tlN n) := by
  unfold tlN
  split
  · next h =>
    have hi := isn.1 h
    have h1 := hi.op1
    have h2 := hi.op2
    exact nm_pf (by omega) (by omega)
  · exact ⟨by simp, by decide⟩
theorem tlF_pf (n : Nat) : ∀ f ∈ tlF n, Pf f := by
  intro f hf
  unfold tlF at hf
  split at hf
  · unfold flds at hf
    rcases List.mem_append.1 hf with h | h
    · rcases List.mem_append.1 h with h | h
      · split at h
        · obtain rfl : f = _ := by simpa using h
          exact (pf_itoa _).cons (by decide)
        · cases h
      · split at h
        · obtain rfl : f = _ := by simpa using h
          exact (pf_itoa _).cons (by decide)
        · cases h
    · split at h
      · cases h
      · obtain rfl : f = _ := by simpa using h
        exact pf_itoa _
  · obtain rfl : f = _ := by simpa using hf
    exact pf_hx n
theorem imm_num {l : Ln} {z lo' hi' : Int} (h1 : -10000000000 < z) (h2 : z < 10000000000) (h3 : lo' ≤ z) (h4 : z ≤ hi') : immT l (Lib.itoa z) lo' hi' = some { l with i := { l.i with imm := z } } := by
  unfold immT
  rw [if_neg (by rw [lbl_itoa]; decide), num_itoa h1 h2]
  simp only []
  rw [if_pos ⟨h3, h4⟩]
theorem stm_tl {n : Nat} (hn : n < 4294967296) : stmT (tlN n) (tlF n) = some (lnW n) := by
  unfold tlN tlF lnW
  by_cases h : isI (parts n) = true
  · have hy := isn.1 h
    obtain ⟨no, na, nb, z, hp, h1, h2, h3, h4, h5, h6⟩ := parts_of h
    rw [if_pos h, if_pos h, if_pos h]
    rw [hp] at hy ⊢
    have ha := hy.a
    have hb := hy.b
    have hl := hy.l
    have hh := hy.h
    simp only [Int.toNat_natCast] at ha hb hl hh ⊢
    have hd := nm_dir h2
    unfold stmT
    rw [if_neg hd.1, if_neg hd.2, opT_nm h1 h2, if_neg (by omega)]
    have za : uA no = false → na = 0 := fun e => by rw [e] at ha; simp [fitsB] at ha; omega
    have zb : uB no = false → nb = 0 := fun e => by rw [e] at hb; simp [fitsB] at hb; omega
    have zi : kd no = 0 → z = 0 := fun e => by rw [e] at hl hh; simp [lo, hi] at hl hh; omega
    have im := fun l => imm_num (l := l) (z := z) (by omega) (by omega) hl hh
    have ra := reg_itoa h3
    have rb := reg_itoa h4
    have f0 : ∀ l : Ln, fldT (lo (kd no)) (hi (kd no)) l 0 (114 :: Lib.itoa (na : Int)) = some { l with i := { l.i with a := na } } := fun l => by unfold fldT; rw [if_neg (by decide), ra]; rfl
    have f1 : ∀ l : Ln, fldT (lo (kd no)) (hi (kd no)) l 1 (114 :: Lib.itoa (nb : Int)) = some { l with i := { l.i with b := nb } } := fun l => by unfold fldT; rw [if_neg (by decide), rb]; rfl
    have f2 : ∀ l : Ln, fldT (lo (kd no)) (hi (kd no)) l 2 (Lib.itoa z) = some { l with i := { l.i with imm := z } } := fun l => by unfold fldT; rw [if_pos rfl]; exact im l
    unfold flds kinds
    simp only [Int.toNat_natCast]
    cases eA : uA no <;> cases eB : uB no <;> by_cases eK : kd no = 0 <;>
      simp [eK, fldsT, f0, f1, f2, ln0] <;> simp_all
  · rw [if_neg h, if_neg h, if_neg h]
    unfold stmT
    rw [if_pos rfl]
    simp only []
    unfold immT
    rw [if_neg (by simp [isLbl, isLet]), num_hx hn]
    simp only []
    rw [if_pos ⟨by omega, by omega⟩]
    rfl
theorem line_tl {n : Nat} (hn : n < 4294967296) : lineT (tl n) = lnW n := by
  rw [tl_eq, line_of (tlN_pf n) (tlF_pf n), stm_tl hn]
  rfl
theorem tl_no10 (n : Nat) : ∀ x ∈ tl n, (x == (10 : UInt8)) = false := by
  intro x hx
  rw [tl_eq] at hx
  have := line_all [10] (by decide) (by decide) (by decide) (tlN_pf n) (tlF_pf n) x hx
  rwa [Lib.contains_one] at this
theorem split_tls : ∀ ns : List Nat, splitT 10 (tls ns) = ns.map tl ++ [[]]
  | [] => rfl
  | n :: r => by rw [tls, split_mark 10 (tl n) _ (tl_no10 n), split_tls r]; rfl
theorem lines_tls {ns : List Nat} (h : ∀ x ∈ ns, x < 4294967296) : linesT (tls ns) = ns.map lnW ++ [ln0] := by
  unfold linesT
  rw [split_tls, List.map_append, List.map_map]
  congr 1
  exact List.map_congr_left fun n hn => line_tl (h n hn)
theorem flt_lnW (ps : List (Tx × (Nat × Int))) (n k : Nat) (a : Int) : fltT ps (lnW n) k a = if 512 < a + 1 then 2 else 0 := by
  unfold fltT lnW ln0
  simp
theorem wrd_lnW (ps : List (Tx × (Nat × Int))) {n : Nat} (hn : n < 4294967296) (a : Int) : wrdT ps (lnW n) a = n := by
  unfold wrdT immW lnW ln0
  by_cases h : isI (parts n) = true
  · have hi := isn.1 h
    have h1 := hi.op1
    simp only [if_pos h, if_true]
    rw [if_neg (by omega)]
    show encW (parts n) = n
    unfold encW
    rw [if_pos h, word_parts hn]
  · simp only [if_neg h, if_true]
    omega
theorem asm_tls (ps : List (Tx × (Nat × Int))) : ∀ (ns : List Nat) (k : Nat) (ws : List Nat), (∀ x ∈ ns, x < 4294967296) → ws.length ≤ 512 → asmL ps (ns.map lnW ++ [ln0]) k ws = if ws.length + ns.length ≤ 512 then (ws ++ ns, 0, 0) else ([], k + (512 - ws.length) + 1, 2)
  | [], k, ws, _, hw => by
    have e : fltT ps ln0 k ws.length = 0 := by
      unfold fltT ln0
      simp
      omega
    rw [List.map_nil, List.nil_append, asmL, if_pos e, asmL, List.length_nil, if_pos (by omega)]
    simp [ln0]
  | n :: r, k, ws, hn, hw => by
    rw [List.map_cons, List.cons_append, asmL, flt_lnW]
    by_cases h : ws.length < 512
    · rw [if_pos (by rw [if_neg (by omega)]), wrd_lnW ps (hn n (by simp)), show (lnW n).words.toNat = 1 from rfl, asm_tls ps r (k + 1) _ (fun x hx => hn x (by simp [hx])) (by simp; omega)]
      simp only [List.length_append, List.length_cons, List.replicate, List.append_assoc]
      by_cases h2 : ws.length + 1 + r.length ≤ 512
      · rw [if_pos (by simpa using h2), if_pos (by omega)]; rfl
      · rw [if_neg (by simpa using h2), if_neg (by omega)]
        simp
        omega
    · have e : ws.length = 512 := by omega
      rw [if_pos (show 512 < (ws.length : Int) + 1 by omega), if_neg (by decide), if_neg (by simp; omega), e]
theorem tl_len2 (n : Nat) : (tl n).length ≤ 31 := by
  unfold tl
  split
  · next hx =>
    obtain ⟨no, na, nb, z, hp, h1, h2, h3, h4, h5, h6⟩ := parts_of hx
    have a1 : (Lib.itoa (na : Int)).length = 1 := by rw [Lib.itoa_nonneg, Lib.decDigits_one (by omega)]; rfl
    have a2 : (Lib.itoa (nb : Int)).length = 1 := by rw [Lib.itoa_nonneg, Lib.decDigits_one (by omega)]; rfl
    have a3 := itoa_len h5 h6
    have a4 := nm_len no
    rw [hp]
    simp only [flds, Int.toNat_natCast]
    cases uA no <;> cases uB no <;> (by_cases e : kd no = 0 <;> simp [jn, e] <;> omega)
  · simp [hx8]
theorem tls_len2 : ∀ ns : List Nat, (tls ns).length ≤ 32 * ns.length
  | [] => by simp [tls]
  | n :: r => by
    have h1 := tl_len2 n
    have h2 := tls_len2 r
    rw [tls]
    simp
    omega
/-- what is told gives the words again -/
theorem asm_told {ns : List Nat} (h : ∀ x ∈ ns, x < 4294967296) (hl : ns.length ≤ 512) : asmT (tls ns) = (ns, 0, 0) := by
  have := tls_len2 ns
  unfold asmT
  rw [if_neg (by omega), lines_tls h, asm_tls _ ns 0 [] h (by simp), if_pos (by simpa using hl)]
  rfl
theorem asm_over {ns : List Nat} (h : ∀ x ∈ ns, x < 4294967296) (hl : 512 < ns.length) (hs : (tls ns).length ≤ 16384) : asmT (tls ns) = ([], 513, 2) := by
  unfold asmT
  rw [if_neg (by omega), lines_tls h, asm_tls _ ns 0 [] h (by simp), if_neg (by simp; omega)]
  rfl
end Go.Proofs.YtoaplkfmchphbaaDoor

namespace Go.Proofs.YtoaplkfmchphbaaDoor
open Go.RowKit
theorem asm_step {ps : List (Tx × (Nat × Int))} {ls : List Ln} {k : Nat} {ws : List Nat} (h : k < ls.length) : asmL ps (ls.drop k) k ws = if fltT ps ls[k] k ws.length = 0 then asmL ps (ls.drop (k + 1)) (k + 1) (ws ++ List.replicate ls[k].words.toNat (wrdT ps ls[k] ws.length)) else ([], k + 1, fltT ps ls[k] k ws.length) := by
  rw [List.drop_eq_getElem_cons h]
  rfl
theorem flt_room {ps : List (Tx × (Nat × Int))} {l : Ln} {k : Nat} {a : Int} (h : fltT ps l k a = 0) : a + l.words ≤ 512 := by
  unfold fltT at h
  split at h
  · simp at h
  · split at h
    · simp at h
    · split at h
      · simp at h
      · split at h
        · simp at h
        · omega
section
variable (w : World)
set_option maxRecDepth 100000 in
set_option maxHeartbeats 4000000 in
theorem asm_any (s : Tx) (hss : s.length ≤ 9223372036854775807) (hO : Ops w) : Calls Tryd.prog 10 #[.string ⟨s.toArray⟩] w fun e w' => ∃ v, e = .returned (.tuple #[v, .int .i64 ((asmT s).2.1 : Nat), .int .i64 (asmT s).2.2]) ∧ w'.ownsRow w.heap.size 29 1 v (asmT s).1.length (wds (asmT s).1) ∧ Below w.heap.size w w' := by
  by_cases hs : 16384 < s.length
  · have HV : Hid (asmT s = ([], 0, 41)) := hide (by unfold asmT; rw [if_pos hs])
    have hsI : (16384 : Int) < (s.length : Int) := by omega
    go_enter Tryd.func10, Tryd.ntmps10
    go_upto_region 1 with fail
    go_step3
    go_wp2
    rw [Exit.noGoto_ret]
    go_ret3
    exact ⟨_, by rw [HV.out]; rfl, by rw [HV.out]; exact ⟨rfl, .inl ⟨rfl, rfl⟩⟩, Below.refl _ _⟩
  · have HV : Hid (asmT s = asmL (lbs (linesT s) (linesT s).length) (linesT s) 0 []) := hide (by unfold asmT; rw [if_neg hs])
    have hsI : ¬ (16384 : Int) < (s.length : Int) := by omega
    have HRL := hide (readLines_any w s (by omega) hO)
    have hcnt := split_count 10 s
    have HOk : Hid (∀ l ∈ linesT s, LnOk l) := hide (fun l hl => by
      unfold linesT at hl
      obtain ⟨p, _, rfl⟩ := List.mem_map.1 hl
      exact lineT_ok p)
    have hlen : (linesT s).length = (splitT 10 s).length := by simp [linesT]
    have HO := hide hO
    clear hO
    change Hid (Calls _ _ _ _ fun e w' => ∃ v, e = .returned v ∧ w'.ownsRow w.heap.size 60 8 v (splitT 10 s).length (lns (linesT s)) ∧ Below w.heap.size w w') at HRL
    generalize linesT s = ls at *
    rw [← hlen] at hcnt HRL
    clear hlen
    go_enter Tryd.func10, Tryd.ntmps10
    go_upto_region 1 with fail
    go_step3
    go_wp2_with fail
    refine HRL.out.mono ?_
    rintro e w1 ⟨v1, rfl, ho1, hb1⟩
    obtain ⟨_, ao, cc, rfl, hLr⟩ := LRow.of ho1
    have hs1 := hb1.size
    have HB1 := hide hb1
    have HLr := hide hLr
    clear ho1 hb1 hLr HRL
    go_wp2_with fail
    refine (findLabels_any w1 ls ao cc (by omega) (fun l hl => ⟨(HOk.out l hl).w0, (HOk.out l hl).w1⟩) HLr.out).mono ?_
    rintro e w2 ⟨r, rfl, hLb, hr, hb2⟩
    have HLr2 := hide (HLr.out.keep hb2)
    have HLb := hide hLb
    have HB2 := hide (HB1.out.trans (hb2.mono hs1))
    have hs2 := hb2.size
    have HPs := hide (atK_bound (lbs_bound (by omega : ls.length ≤ 16385) (fun l hl => ⟨(HOk.out l hl).w0, (HOk.out l hl).w1⟩) ls.length (Nat.le_refl _)))
    clear hLb hb2 HLr HB1
    generalize lbs ls ls.length = ps at *
    obtain ⟨R, hRR⟩ : ∃ R, asmL ps ls 0 [] = R := ⟨_, rfl⟩
    rw [hRR] at HV
    have HRR := hide hRR
    clear hRR
    go_upto_region 8 with fail
    go_step3
    go_upto_region 8 with fail
    go_loopw [7, 8, 9, 21] (fun v a c u wr => ∃ (k : Nat) (ws : List Nat), a = .int .i64 0 ∧ c = .int .i64 0 ∧ u = .int .i64 (k : Int) ∧ k ≤ ls.length ∧ asmL ps (ls.drop k) k ws = R ∧ ws.length ≤ 512 ∧ wr.ownsRow w2.heap.size 29 1 v ws.length (wds ws) ∧ Below w2.heap.size w2 wr) (fun _ _ _ u _ => ls.length - (intOf u).toNat)
    case atStart => exact ⟨0, [], rfl, rfl, rfl, by omega, HRR.out, by simp, ⟨rfl, .inl ⟨rfl, rfl⟩⟩, Below.refl _ _⟩
    case round =>
    obtain ⟨k, ws, rfl, rfl, rfl, hk, hst, hwl, hOw, hBw⟩ := hrel
    clear HRR
    obtain ⟨au, cu, rfl⟩ := own_shape hOw
    have HOw := hide hOw
    have HBw := hide hBw
    have hsw := hBw.size
    by_cases hlt : k < ls.length
    · obtain ⟨a, rfl, ha⟩ := (HLr2.out.keep hBw) k hlt
      have hd : (k : Int) < (ls.length : Int) := by omega
      have hok := HOk.out ls[k] (List.getElem_mem hlt)
      have HSt := hide (hst.symm.trans (asm_step hlt))
      have HA := hide ha
      have HLbw := hide (HLb.out.keep hBw)
      have HOpw := hide ((HO.out.below HB2.out).below hBw)
      have HM := hide (HPs.out ls[k].name)
      clear hOw hBw ha hst
      generalize ls[k] = L at *
      have hw0 := hok.w0
      have hw1 := hok.w1
      have HRm : Hid (fltT ps L k (ws.length : Int) = 0 → (ws.length : Int) + L.words ≤ 512) := hide flt_room
      obtain ⟨FL, hFL⟩ : ∃ z, fltT ps L k (ws.length : Int) = z := ⟨_, rfl⟩
      have HFl : Hid (∀ W, Lb W r ps → Calls Tryd.prog 24 #[.agg (lnC L), .int .i64 (k : Int), .int .i64 (ws.length : Int), .map (some r)] W fun e w' => e = .returned (.int .i64 FL) ∧ Below W.heap.size W w') := hide (fun W hW => by rw [← hFL]; exact fault_any W ps L k (ws.length : Int) r (by omega) (by omega) hw0 hw1 hW)
      have HG := hide (fun W (hR : W.ownsRow w2.heap.size 29 1 (.slice au ws.length cu) ws.length (wds ws)) (h1 : w2.heap.size ≤ W.heap.size) (h2 : Lb W r ps) (h3 : Ops W) => give_any W ps L ws _ w2.heap.size r hok HM.out hwl hR h1 h2 h3)
      rw [hFL] at HSt HRm
      have HNn : Hid (ws.length ≤ 512) := hide hwl
      clear hFL hok HM
      generalize wrdT ps L (ws.length : Int) = WD at *
      obtain ⟨wrong, label, ⟨op, ia, ib, imm⟩, name, words⟩ := L
      simp only [lnC] at HFl HG hw0 hw1 HSt HRm
      go_upto_region 10 with (refine loadT Tryd.underlying60 rfl [.bool wrong, .string ⟨label.toArray⟩, .int .i64 op, .int .i64 ia, .int .i64 ib, .int .i64 imm, .string ⟨name.toArray⟩, .int .i64 words] (by kernel_rfl) rfl _ rfl (a.add (k * 8)) rfl HA.out ?_)
      have hb3 := bel1 wr (.cells #[.bool wrong, .string ⟨label.toArray⟩, .int .i64 op, .int .i64 ia, .int .i64 ib, .int .i64 imm, .string ⟨name.toArray⟩, .int .i64 words] 60)
      have hG : LnAt (wr.alloc (.cells #[.bool wrong, .string ⟨label.toArray⟩, .int .i64 op, .int .i64 ia, .int .i64 ib, .int .i64 imm, .string ⟨name.toArray⟩, .int .i64 words] 60)) wr.heap.size ⟨wrong, label, ⟨op, ia, ib, imm⟩, name, words⟩ := heap_alloc_last _ _
      have HLb3 := hide (HLbw.out.keep hb3)
      have HOp3 := hide (HOpw.out.below hb3)
      have HO3 := hide (own_keep HOw.out hb3)
      have HB3 := hide (HBw.out.alloc hsw (.cells #[.bool wrong, .string ⟨label.toArray⟩, .int .i64 op, .int .i64 ia, .int .i64 ib, .int .i64 imm, .string ⟨name.toArray⟩, .int .i64 words] 60))
      have hs3 : w2.heap.size ≤ (wr.alloc (.cells #[.bool wrong, .string ⟨label.toArray⟩, .int .i64 op, .int .i64 ia, .int .i64 ib, .int .i64 imm, .string ⟨name.toArray⟩, .int .i64 words] 60)).heap.size := by simp; omega
      clear hb3 HA HLbw HOpw HOw HBw
      generalize wr.alloc (.cells #[.bool wrong, .string ⟨label.toArray⟩, .int .i64 op, .int .i64 ia, .int .i64 ib, .int .i64 imm, .string ⟨name.toArray⟩, .int .i64 words] 60) = W at *
      generalize wr.heap.size = g at *
      obtain ⟨q0, q1, q2, q3, q4, q5, q6, q7⟩ := hG.cells
      have hgl := hG.lt
      go_wp2_with fail
      refine (HFl.out _ HLb3.out).mono ?_
      rintro e w4 ⟨rfl, hb4⟩
      have hG4 := hG.keep hb4
      have HLb4 := hide (HLb3.out.keep hb4)
      have HOp4 := hide (HOp3.out.below hb4)
      have HO4 := hide (own_keep HO3.out hb4)
      have HB4 := hide (HB3.out.trans (hb4.mono hs3))
      have hs4 := Nat.le_trans hs3 hb4.size
      clear hb4 hG HLb3 HOp3 HO3 HB3 q0 q1 q2 q3 q4 q5 q6 q7 HFl
      obtain ⟨q0, q1, q2, q3, q4, q5, q6, q7⟩ := hG4.cells
      by_cases hz : FL = 0
      · subst hz
        have HSt2 : Hid (R = asmL ps (ls.drop (k + 1)) (k + 1) (ws ++ List.replicate words.toNat WD)) := hide (by rw [HSt.out]; rfl)
        have hrm := HRm.out rfl
        have HLen : Hid ((ws ++ List.replicate words.toNat WD).length ≤ 512) := hide (by simp; omega)
        clear HSt HRm
        go_wp2_with fail
        refine (HG.out _ HO4.out hs4 HLb4.out HOp4.out).mono ?_
        rintro e w5 ⟨v5, rfl, ho5, hb5⟩
        have HB5 := hide (HB4.out.trans hb5)
        have HO5 := hide ho5
        obtain ⟨a5, c5, rfl⟩ := own_shape ho5
        clear ho5 hb5 HB4 HO4 HG
        generalize ws ++ List.replicate words.toNat WD = ws5 at *
        go_wp2
        refine ⟨⟨k + 1, ws5, rfl, rfl, by simp, by omega, HSt2.out.symm, HLen.out, HO5.out, HB5.out⟩, ?_⟩
        simp [intOf]
        omega
      · have HSt2 : Hid (R = ([], k + 1, FL)) := hide (by rw [HSt.out, if_neg hz])
        have hzb : (FL == 0) = false := by simpa using hz
        clear HSt HRm HG hz
        go_wp2
        (try rw [Exit.noGoto_ret])
        go_ret3
        exact ⟨_, by rw [HV.out, HSt2.out]; rfl, by rw [HV.out, HSt2.out]; exact ⟨rfl, .inl ⟨rfl, rfl⟩⟩, HB2.out.trans (HB4.out.mono (by omega))⟩
    · obtain rfl : k = ls.length := by omega
      have HSt : Hid (R = (ws, 0, 0)) := hide (by rw [← hst, List.drop_length]; rfl)
      clear hOw hBw hst
      go_wp2
      (try rw [Exit.noGoto_ret])
      go_ret3
      exact ⟨_, by rw [HV.out, HSt.out]; rfl, by rw [HV.out, HSt.out]; exact own_mono HOw.out (by omega), HB2.out.trans (HBw.out.mono (by omega))⟩
end
end Go.Proofs.YtoaplkfmchphbaaDoor
