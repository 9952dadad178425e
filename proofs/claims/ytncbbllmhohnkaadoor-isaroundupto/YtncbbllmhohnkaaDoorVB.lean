import Derived.Test.YtncbbllmhohnkaaDoorVA
namespace Go.Proofs.YtncbbllmhohnkaaDoor
open Go.RowKit
theorem digV_hd {k : Nat} (h : k < 16) : digV (hd k) = k := by
  have : ∀ k : Fin 16, digV (hd k.val) = k.val := by decide
  exact this ⟨k, h⟩
theorem hd_pl {k : Nat} (h : k < 16) : plC (hd k) = true := by
  have : ∀ k : Fin 16, plC (hd k.val) = true := by decide
  exact this ⟨k, h⟩
theorem pf_hx (n : Nat) : Pf (48 :: 120 :: hx8 n) := by
  refine Pf.cons (Pf.cons ⟨by simp [hx8], fun x hx => ?_⟩ (by decide)) (by decide)
  simp only [hx8, List.mem_cons, List.not_mem_nil, or_false] at hx
  rcases hx with rfl | rfl | rfl | rfl | rfl | rfl | rfl | rfl <;> exact hd_pl (Nat.mod_lt _ (by decide))
theorem numF_hx {n : Nat} (h : n < 4294967296) : numF 16 0 (hx8 n) = some n := by
  have m : ∀ a : Nat, a % 16 < 16 := fun a => Nat.mod_lt _ (by decide)
  simp only [hx8, numF, digV_hd (m _), if_pos (m _)]
  congr 1
  omega
theorem num_hx {n : Nat} (h : n < 4294967296) : numT (48 :: 120 :: hx8 n) = some (n : Int) := by
  have a1 : absT (48 :: 120 :: hx8 n) = 48 :: 120 :: hx8 n := by unfold absT Lib.trimPrefix Lib.hasPrefix; simp
  have d1 : digT (48 :: 120 :: hx8 n) = hx8 n := by unfold digT Lib.trimPrefix Lib.hasPrefix; simp
  have b0 : hexT (48 :: 120 :: hx8 n) = true := by unfold hexT Lib.hasPrefix; simp
  have b1 : basT (48 :: 120 :: hx8 n) = 16 := by unfold basT; rw [b0]; rfl
  have b2 : mosT (48 :: 120 :: hx8 n) = 8 := by unfold mosT; rw [b0]; rfl
  unfold numT
  rw [a1, d1, b1, b2, if_neg (by simp [hx8]), numF_hx h, show minT (48 :: 120 :: hx8 n) = false from rfl]
  rfl
theorem nm_pf {no : Nat} (h1 : 1 ≤ no) (h2 : no < 27) : Pf (nm no) := by
  have : ∀ k : Fin 27, k.val ≠ 0 → nm k.val ≠ [] ∧ (nm k.val).all plC = true := by decide
  obtain ⟨a, b⟩ := this ⟨no, h2⟩ (by show no ≠ 0; omega)
  exact ⟨a, List.all_eq_true.1 b⟩
theorem opT_nm {no : Nat} (h1 : 1 ≤ no) (h2 : no < 27) : opT (nm no) = no := by
  have : ∀ k : Fin 27, k.val ≠ 0 → opT (nm k.val) = k.val := by decide +kernel
  exact this ⟨no, h2⟩ (by show no ≠ 0; omega)
theorem nm_dir {no : Nat} (h2 : no < 27) : nm no ≠ [46, 119, 111, 114, 100] ∧ nm no ≠ [46, 122, 101, 114, 111] := by
  have : ∀ k : Fin 27, nm k.val ≠ [46, 119, 111, 114, 100] ∧ nm k.val ≠ [46, 122, 101, 114, 111] := by decide
  exact this ⟨no, h2⟩
/-- the line that a told word is -/
def lnW (n : Nat) : Ln := { ln0 with i := if isI (parts n) then parts n else ⟨0, 0, 0, (n : Int)⟩, words := 1 }
def tlN (n : Nat) : Tx := if isI (parts n) then nm (parts n).op.toNat else [46, 119, 111, 114, 100]
def tlF (n : Nat) : List Tx := if isI (parts n) then flds (parts n) else [48 :: 120 :: hx8 n]
theorem tl_eq (n : Nat) : tl n = tlN n ++ jn [32] (tlF n) := by
  unfold tl tlN tlF
  split
  · rfl
  · simp [jn]
theorem tlN_pf (n : Nat) : Pf (tlN n) := by
  unfold tlN
  split
  · next h =>
    have hi := isn.1 h
    have h1 := hi.op1
    have h2 := hi.op2
    exact nm_pf (by omega) (by omega)
  · exact ⟨by simp, by decide⟩
theorem tlF_pf (n : Nat) : ∀ f ∈ tlF n, Pf f := by
  intro f hf
  unfold tlF at hf
  split at hf
  · unfold flds at hf
    rcases List.mem_append.1 hf with h | h
    · rcases List.mem_append.1 h with h | h
      · split at h
        · obtain rfl : f = _ := by simpa using h
          exact (pf_itoa _).cons (by decide)
        · cases h
      · split at h
        · obtain rfl : f = _ := by simpa using h
          exact (pf_itoa _).cons (by decide)
        · cases h
    · split at h
      · cases h
      · obtain rfl : f = _ := by simpa using h
        exact pf_itoa _
  · obtain rfl : f = _ := by simpa using hf
    exact pf_hx n
theorem imm_num {l : Ln} {z lo' hi' : Int} (h1 : -10000000000 < z) (h2 : z < 10000000000) (h3 : lo' ≤ z) (h4 : z ≤ hi') : immT l (Lib.itoa z) lo' hi' = some { l with i := { l.i with imm := z } } := by
  unfold immT
  rw [if_neg (by rw [lbl_itoa]; decide), num_itoa h1 h2]
  simp only []
  rw [if_pos ⟨h3, h4⟩]
theorem stm_tl {n : Nat} (hn : n < 4294967296) : stmT (tlN n) (tlF n) = some (lnW n) := by
  unfold tlN tlF lnW
  by_cases h : isI (parts n) = true
  · have hy := isn.1 h
    obtain ⟨no, na, nb, z, hp, h1, h2, h3, h4, h5, h6⟩ := parts_of h
    rw [if_pos h, if_pos h, if_pos h]
    rw [hp] at hy ⊢
    have ha := hy.a
    have hb := hy.b
    have hl := hy.l
    have hh := hy.h
    simp only [Int.toNat_natCast] at ha hb hl hh ⊢
    have hd := nm_dir h2
    unfold stmT
    rw [if_neg hd.1, if_neg hd.2, opT_nm h1 h2, if_neg (by omega)]
    have za : uA no = false → na = 0 := fun e => by rw [e] at ha; simp [fitsB] at ha; omega
    have zb : uB no = false → nb = 0 := fun e => by rw [e] at hb; simp [fitsB] at hb; omega
    have zi : kd no = 0 → z = 0 := fun e => by rw [e] at hl hh; simp [lo, hi] at hl hh; omega
    have im := fun l => imm_num (l := l) (z := z) (by omega) (by omega) hl hh
    have ra := reg_itoa h3
    have rb := reg_itoa h4
    have f0 : ∀ l : Ln, fldT (lo (kd no)) (hi (kd no)) l 0 (114 :: Lib.itoa (na : Int)) = some { l with i := { l.i with a := na } } := fun l => by unfold fldT; rw [if_neg (by decide), ra]; rfl
    have f1 : ∀ l : Ln, fldT (lo (kd no)) (hi (kd no)) l 1 (114 :: Lib.itoa (nb : Int)) = some { l with i := { l.i with b := nb } } := fun l => by unfold fldT; rw [if_neg (by decide), rb]; rfl
    have f2 : ∀ l : Ln, fldT (lo (kd no)) (hi (kd no)) l 2 (Lib.itoa z) = some { l with i := { l.i with imm := z } } := fun l => by unfold fldT; rw [if_pos rfl]; exact im l
    unfold flds kinds
    simp only [Int.toNat_natCast]
    cases eA : uA no <;> cases eB : uB no <;> by_cases eK : kd no = 0 <;>
      simp [eK, fldsT, f0, f1, f2, ln0] <;> simp_all
  · rw [if_neg h, if_neg h, if_neg h]
    unfold stmT
    rw [if_pos rfl]
    simp only []
    unfold immT
    rw [if_neg (by simp [isLbl, isLet]), num_hx hn]
    simp only []
    rw [if_pos ⟨by omega, by omega⟩]
    rfl
theorem line_tl {n : Nat} (hn : n < 4294967296) : lineT (tl n) = lnW n := by
  rw [tl_eq, line_of (tlN_pf n) (tlF_pf n), stm_tl hn]
  rfl
theorem tl_no10 (n : Nat) : ∀ x ∈ tl n, (x == (10 : UInt8)) = false := by
  intro x hx
  rw [tl_eq] at hx
  have := line_all [10] (by decide) (by decide) (by decide) (tlN_pf n) (tlF_pf n) x hx
  rwa [Lib.contains_one] at this
theorem split_tls : ∀ ns : List Nat, splitT 10 (tls ns) = ns.map tl ++ [[]]
  | [] => rfl
  | n :: r => by rw [tls, split_mark 10 (tl n) _ (tl_no10 n), split_tls r]; rfl
theorem lines_tls {ns : List Nat} (h : ∀ x ∈ ns, x < 4294967296) : linesT (tls ns) = ns.map lnW ++ [ln0] := by
  unfold linesT
  rw [split_tls, List.map_append, List.map_map]
  congr 1
  exact List.map_congr_left fun n hn => line_tl (h n hn)
theorem flt_lnW (ps : List (Tx × (Nat × Int))) (n k : Nat) (a : Int) : fltT ps (lnW n) k a = if 512 < a + 1 then 2 else 0 := by
  unfold fltT lnW ln0
  simp
theorem wrd_lnW (ps : List (Tx × (Nat × Int))) {n : Nat} (hn : n < 4294967296) (a : Int) : wrdT ps (lnW n) a = n := by
  unfold wrdT immW lnW ln0
  by_cases h : isI (parts n) = true
  · have hi := isn.1 h
    have h1 := hi.op1
    simp only [if_pos h, if_true]
    rw [if_neg (by omega)]
    show encW (parts n) = n
    unfold encW
    rw [if_pos h, word_parts hn]
  · simp only [if_neg h, if_true]
    omega
theorem asm_tls (ps : List (Tx × (Nat × Int))) : ∀ (ns : List Nat) (k : Nat) (ws : List Nat), (∀ x ∈ ns, x < 4294967296) → ws.length ≤ 512 → asmL ps (ns.map lnW ++ [ln0]) k ws = if ws.length + ns.length ≤ 512 then (ws ++ ns, 0, 0) else ([], k + (512 - ws.length) + 1, 2)
  | [], k, ws, _, hw => by
    have e : fltT ps ln0 k ws.length = 0 := by
      unfold fltT ln0
      simp
      omega
    rw [List.map_nil, List.nil_append, asmL, if_pos e, asmL, List.length_nil, if_pos (by omega)]
    simp [ln0]
  | n :: r, k, ws, hn, hw => by
    rw [List.map_cons, List.cons_append, asmL, flt_lnW]
    by_cases h : ws.length < 512
    · rw [if_pos (by rw [if_neg (by omega)]), wrd_lnW ps (hn n (by simp)), show (lnW n).words.toNat = 1 from rfl, asm_tls ps r (k + 1) _ (fun x hx => hn x (by simp [hx])) (by simp; omega)]
      simp only [List.length_append, List.length_cons, List.replicate, List.append_assoc]
      by_cases h2 : ws.length + 1 + r.length ≤ 512
      · rw [if_pos (by simpa using h2), if_pos (by omega)]; rfl
      · rw [if_neg (by simpa using h2), if_neg (by omega)]
        simp
        omega
    · have e : ws.length = 512 := by omega
      rw [if_pos (show 512 < (ws.length : Int) + 1 by omega), if_neg (by decide), if_neg (by simp; omega), e]
theorem tl_len2 (n : Nat) : (tl n).length ≤ 31 := by
  unfold tl
  split
  · next hx =>
    obtain ⟨no, na, nb, z, hp, h1, h2, h3, h4, h5, h6⟩ := parts_of hx
    have a1 : (Lib.itoa (na : Int)).length = 1 := by rw [Lib.itoa_nonneg, Lib.decDigits_one (by omega)]; rfl
    have a2 : (Lib.itoa (nb : Int)).length = 1 := by rw [Lib.itoa_nonneg, Lib.decDigits_one (by omega)]; rfl
    have a3 := itoa_len h5 h6
    have a4 := nm_len no
    rw [hp]
    simp only [flds, Int.toNat_natCast]
    cases uA no <;> cases uB no <;> (by_cases e : kd no = 0 <;> simp [jn, e] <;> omega)
  · simp [hx8]
theorem tls_len2 : ∀ ns : List Nat, (tls ns).length ≤ 32 * ns.length
  | [] => by simp [tls]
  | n :: r => by
    have h1 := tl_len2 n
    have h2 := tls_len2 r
    rw [tls]
    simp
    omega
/-- what is told gives the words again -/
theorem asm_told {ns : List Nat} (h : ∀ x ∈ ns, x < 4294967296) (hl : ns.length ≤ 512) : asmT (tls ns) = (ns, 0, 0) := by
  have := tls_len2 ns
  unfold asmT
  rw [if_neg (by omega), lines_tls h, asm_tls _ ns 0 [] h (by simp), if_pos (by simpa using hl)]
  rfl
theorem asm_over {ns : List Nat} (h : ∀ x ∈ ns, x < 4294967296) (hl : 512 < ns.length) (hs : (tls ns).length ≤ 16384) : asmT (tls ns) = ([], 513, 2) := by
  unfold asmT
  rw [if_neg (by omega), lines_tls h, asm_tls _ ns 0 [] h (by simp), if_neg (by simp; omega)]
  rfl
end Go.Proofs.YtncbbllmhohnkaaDoor
