import Derived.Test.YtoaplkfmchphbaaDoorS00
import Derived.Test.YtoaplkfmchphbaaDoorS13
namespace Go.Proofs.YtoaplkfmchphbaaDoor
open Go.RowKit
theorem digV_hd {k : Nat} (h : k < 16) : digV (hd k) = k := by
  have : ∀ k : Fin 16, digV (hd k.val) = k.val := by decide
  exact this ⟨k, h⟩
theorem hd_pl {k : Nat} (h : k < 16) : plC (hd k) = true := by
  have : ∀ k : Fin 16, plC (hd k.val) = true := by decide
  exact this ⟨k, h⟩
theorem pf_hx (n : Nat) : Pf (48 :: 120 :: hx8 n) := by
  refine Pf.cons (Pf.cons ⟨by simp [hx8], fun x hx => ?_⟩ (by decide)) (by decide)
  simp only [hx8, List.mem_cons, List.not_mem_nil, or_false] at hx
  rcases hx with rfl | rfl | rfl | rfl | rfl | rfl | rfl | rfl <;> exact hd_pl (Nat.mod_lt _ (by decide))
theorem numF_hx {n : Nat} (h : n < 4294967296) : numF 16 0 (hx8 n) = some n := by
  have m : ∀ a : Nat, a % 16 < 16 := fun a => Nat.mod_lt _ (by decide)
  simp only [hx8, numF, digV_hd (m _), if_pos (m _)]
  congr 1
  omega
theorem num_hx {n : Nat} (h : n < 4294967296) : numT (48 :: 120 :: hx8 n) = some (n : Int) := by
  have a1 : absT (48 :: 120 :: hx8 n) = 48 :: 120 :: hx8 n := by unfold absT Lib.trimPrefix Lib.hasPrefix; simp
  have d1 : digT (48 :: 120 :: hx8 n) = hx8 n := by unfold digT Lib.trimPrefix Lib.hasPrefix; simp
  have b0 : hexT (48 :: 120 :: hx8 n) = true := by unfold hexT Lib.hasPrefix; simp
  have b1 : basT (48 :: 120 :: hx8 n) = 16 := by unfold basT; rw [b0]; rfl
  have b2 : mosT (48 :: 120 :: hx8 n) = 8 := by unfold mosT; rw [b0]; rfl
  unfold numT
  rw [a1, d1, b1, b2, if_neg (by simp [hx8]), numF_hx h, show minT (48 :: 120 :: hx8 n) = false from rfl]
  rfl
theorem nm_pf {no : Nat} (h1 : 1 ≤ no) (h2 : no < 27) : Pf (nm no) := by
  have : ∀ k : Fin 27, k.val ≠ 0 → nm k.val ≠ [] ∧ (nm k.val).all plC = true := by decide
  obtain ⟨a, b⟩ := this ⟨no, h2⟩ (by show no ≠ 0; omega)
  exact ⟨a, List.all_eq_true.1 b⟩
theorem opT_nm {no : Nat} (h1 : 1 ≤ no) (h2 : no < 27) : opT (nm no) = no := by
  have : ∀ k : Fin 27, k.val ≠ 0 → opT (nm k.val) = k.val := by decide +kernel
  exact this ⟨no, h2⟩ (by show no ≠ 0; omega)
theorem nm_dir {no : Nat} (h2 : no < 27) : nm no ≠ [46, 119, 111, 114, 100] ∧ nm no ≠ [46, 122, 101, 114, 111] := by
  have : ∀ k : Fin 27, nm k.val ≠ [46, 119, 111, 114, 100] ∧ nm k.val ≠ [46, 122, 101, 114, 111] := by decide
  exact this ⟨no, h2⟩
/-- the line that a told word is -/
def lnW (n : Nat) : Ln := { ln0 with i := if isI (parts n) then parts n else ⟨0, 0, 0, (n : Int)⟩, words := 1 }
def tlN (n : Nat) : Tx := if isI (parts n) then nm (parts n).op.toNat else [46, 119, 111, 114, 100]
def tlF (n : Nat) : List Tx := if isI (parts n) then flds (parts n) else [48 :: 120 :: hx8 n]
theorem tl_eq (n : Nat) : tl n = tlN n ++ jn [32] (tlF n) := by
  unfold tl tlN tlF
  split
  · rfl
  · simp [jn]
theorem tlN_pf (n : Nat) : Pf (tlN n) := by
  unfold tlN
  split
  · next h =>
    have hi := isn.1 h
    have h1 := hi.op1
    have h2 := hi.op2
    exact nm_pf (by omega) (by omega)
  · exact ⟨by simp, by decide⟩
theorem tlF_pf (n : Nat) : ∀ f ∈ tlF n, Pf f := by
  intro f hf
  unfold tlF at hf
  split at hf
  · unfold flds at hf
    rcases List.mem_append.1 hf with h | h
    · rcases List.mem_append.1 h with h | h
      · split at h
        · obtain rfl : f = _ := by simpa using h
          exact (pf_itoa _).cons (by decide)
        · cases h
      · split at h
        · obtain rfl : f = _ := by simpa using h
          exact (pf_itoa _).cons (by decide)
        · cases h
    · split at h
      · cases h
      · obtain rfl : f = _ := by simpa using h
        exact pf_itoa _
  · obtain rfl : f = _ := by simpa using hf
    exact pf_hx n
theorem imm_num {l : Ln} {z lo' hi' : Int} (h1 : -10000000000 < z) (h2 : z < 10000000000) (h3 : lo' ≤ z) (h4 : z ≤ hi') : immT l (Lib.itoa z) lo' hi' = some { l with i := { l.i with imm := z } } := by
  unfold immT
  rw [if_neg (by rw [lbl_itoa]; decide), num_itoa h1 h2]
  simp only []
  rw [if_pos ⟨h3, h4⟩]
theorem stm_tl {n : Nat} (hn : n < 4294967296) : stmT (tlN n) (tlF n) = some (lnW n) := by
  unfold tlN tlF lnW
  by_cases h : isI (parts n) = true
  · have hy := isn.1 h
    obtain ⟨no, na, nb, z, hp, h1, h2, h3, h4, h5, h6⟩ := parts_of h
    rw [if_pos h, if_pos h, if_pos h]
    rw [hp] at hy ⊢
    have ha := hy.a
    have hb := hy.b
    have hl := hy.l
    have hh := hy.h
    simp only [Int.toNat_natCast] at ha hb hl hh ⊢
    have hd := nm_dir h2
    unfold stmT
    rw [if_neg hd.1, if_neg hd.2, opT_nm h1 h2, if_neg (by omega)]
    have za : uA no = false → na = 0 := fun e => by rw [e] at ha; simp [fitsB] at ha; omega
    have zb : uB no = false → nb = 0 := fun e => by rw [e] at hb; simp [fitsB] at hb; omega
    have zi : kd no = 0 → z = 0 := fun e => by rw [e] at hl hh; simp [lo, hi] at hl hh; omega
    have im := fun l => imm_num (l := l) (z := z) (by omega) (by omega) hl hh
    have ra := reg_itoa h3
    have rb := reg_itoa h4
    have f0 : ∀ l : Ln, fldT (lo (kd no)) (hi (kd no)) l 0 (114 :: Lib.itoa (na : Int)) = some { l with i := { l.i with a := na } } := fun l => by unfold fldT; rw [if_neg (by decide), ra]; rfl
    have f1 : ∀ l : Ln, fldT (lo (kd no)) (hi (kd no)) l 1 (114 :: Lib.itoa (nb : Int)) = some { l with i := { l.i with b := nb } } := fun l => by unfold fldT; rw [if_neg (by decide), rb]; rfl
    have f2 : ∀ l : Ln, fldT (lo (kd no)) (hi (kd no)) l 2 (Lib.itoa z) = some { l with i := { l.i with imm := z } } := fun l => by unfold fldT; rw [if_pos rfl]; exact im l
    unfold flds kinds
    simp only [Int.toNat_natCast]
    cases eA : uA no <;> cases eB : uB no <;> by_cases eK : kd no = 0 <;>
      simp [eK, fldsT, f0, f1, f2, ln0] <;> simp_all
  · rw [if_neg h, if_neg h, if_neg h]
    unfold stmT
    rw [if_pos rfl]
    simp only []
    unfold immT
    rw [if_neg (by simp [isLbl, isLet]), num_hx hn]
    simp only []
    rw [if_pos ⟨by omega, by omega⟩]
    rfl
theorem line_tl {n : Nat} (hn : n < 4294967296) : lineT (tl n) = lnW n := by
  rw [tl_eq, line_of (tlN_pf n) (tlF_pf n), stm_tl hn]
  rfl
theorem tl_no10 (n : Nat) : ∀ x ∈ tl n, (x == (10 : UInt8)) = false := by
  intro x hx
  rw [tl_eq] at hx
  have := line_all [10] (by decide) (by decide) (by decide) (tlN_pf n) (tlF_pf n) x hx
  rwa [Lib.contains_one] at this
theorem split_tls : ∀ ns : List Nat, splitT 10 (tls ns) = ns.map tl ++ [[]]
  | [] => rfl
  | n :: r => by rw [tls, split_mark 10 (tl n) _ (tl_no10 n), split_tls r]; rfl
theorem lines_tls {ns : List Nat} (h : ∀ x ∈ ns, x < 4294967296) : linesT (tls ns) = ns.map lnW ++ [ln0] := by
  unfold linesT
  rw [split_tls, List.map_append, List.map_map]
  congr 1
  exact List.map_congr_left fun n hn => line_tl (h n hn)
theorem flt_lnW (ps : List (Tx × (Nat × Int))) (n k : Nat) (a : Int) : fltT ps (lnW n) k a = if 512 < a + 1 then 2 else 0 := by
  unfold fltT lnW ln0
  simp
theorem wrd_lnW (ps : List (Tx × (Nat × Int))) {n : Nat} (hn : n < 4294967296) (a : Int) : wrdT ps (lnW n) a = n := by
  unfold wrdT immW lnW ln0
  by_cases h : isI (parts n) = true
  · have hi := isn.1 h
    have h1 := hi.op1
    simp only [if_pos h, if_true]
    rw [if_neg (by omega)]
    show encW (parts n) = n
    unfold encW
    rw [if_pos h, word_parts hn]
  · simp only [if_neg h, if_true]
    omega
theorem asm_tls (ps : List (Tx × (Nat × Int))) : ∀ (ns : List Nat) (k : Nat) (ws : List Nat), (∀ x ∈ ns, x < 4294967296) → ws.length ≤ 512 → asmL ps (ns.map lnW ++ [ln0]) k ws = if ws.length + ns.length ≤ 512 then (ws ++ ns, 0, 0) else ([], k + (512 - ws.length) + 1, 2)
  | [], k, ws, _, hw => by
    have e : fltT ps ln0 k ws.length = 0 := by
      unfold fltT ln0
      simp
      omega
    rw [List.map_nil, List.nil_append, asmL, if_pos e, asmL, List.length_nil, if_pos (by omega)]
    simp [ln0]
  | n :: r, k, ws, hn, hw => by
    rw [List.map_cons, List.cons_append, asmL, flt_lnW]
    by_cases h : ws.length < 512
    · rw [if_pos (by rw [if_neg (by omega)]), wrd_lnW ps (hn n (by simp)), show (lnW n).words.toNat = 1 from rfl, asm_tls ps r (k + 1) _ (fun x hx => hn x (by simp [hx])) (by simp; omega)]
      simp only [List.length_append, List.length_cons, List.replicate, List.append_assoc]
      by_cases h2 : ws.length + 1 + r.length ≤ 512
      · rw [if_pos (by simpa using h2), if_pos (by omega)]; rfl
      · rw [if_neg (by simpa using h2), if_neg (by omega)]
        simp
        omega
    · have e : ws.length = 512 := by omega
      rw [if_pos (show 512 < (ws.length : Int) + 1 by omega), if_neg (by decide), if_neg (by simp; omega), e]
theorem tl_len2 (n : Nat) : (tl n).length ≤ 31 := by
  unfold tl
  split
  · next hx =>
    obtain ⟨no, na, nb, z, hp, h1, h2, h3, h4, h5, h6⟩ := parts_of hx
    have a1 : (Lib.itoa (na : Int)).length = 1 := by rw [Lib.itoa_nonneg, Lib.decDigits_one (by omega)]; rfl
    have a2 : (Lib.itoa (nb : Int)).length = 1 := by rw [Lib.itoa_nonneg, Lib.decDigits_one (by omega)]; rfl
    have a3 := itoa_len h5 h6
    have a4 := nm_len no
    rw [hp]
    simp only [flds, Int.toNat_natCast]
    cases uA no <;> cases uB no <;> (by_cases e : kd no = 0 <;> simp [jn, e] <;> omega)
  · simp [hx8]
theorem tls_len2 : ∀ ns : List Nat, (tls ns).length ≤ 32 * ns.length
  | [] => by simp [tls]
  | n :: r => by
    have h1 := tl_len2 n
    have h2 := tls_len2 r
    rw [tls]
    simp
    omega
/-- what is told gives the words again -/
theorem asm_told {ns : List Nat} (h : ∀ x ∈ ns, x < 4294967296) (hl : ns.length ≤ 512) : asmT (tls ns) = (ns, 0, 0) := by
  have := tls_len2 ns
  unfold asmT
  rw [if_neg (by omega), lines_tls h, asm_tls _ ns 0 [] h (by simp), if_pos (by simpa using hl)]
  rfl
theorem asm_over {ns : List Nat} (h : ∀ x ∈ ns, x < 4294967296) (hl : 512 < ns.length) (hs : (tls ns).length ≤ 16384) : asmT (tls ns) = ([], 513, 2) := by
  unfold asmT
  rw [if_neg (by omega), lines_tls h, asm_tls _ ns 0 [] h (by simp), if_neg (by simp; omega)]
  rfl
end Go.Proofs.YtoaplkfmchphbaaDoor

namespace Go.Proofs.YtoaplkfmchphbaaDoor
open Go.RowKit
theorem asm_step {ps : List (Tx × (Nat × Int))} {ls : List Ln} {k : Nat} {ws : List Nat} (h : k < ls.length) : asmL ps (ls.drop k) k ws = if fltT ps ls[k] k ws.length = 0 then asmL ps (ls.drop (k + 1)) (k + 1) (ws ++ List.replicate ls[k].words.toNat (wrdT ps ls[k] ws.length)) else ([], k + 1, fltT ps ls[k] k ws.length) := by
  rw [List.drop_eq_getElem_cons h]
  rfl
theorem flt_room {ps : List (Tx × (Nat × Int))} {l : Ln} {k : Nat} {a : Int} (h : fltT ps l k a = 0) : a + l.words ≤ 512 := by
  unfold fltT at h
  split at h
  · simp at h
  · split at h
    · simp at h
    · split at h
      · simp at h
      · split at h
        · simp at h
        · omega
section
variable (w : World)
set_option maxRecDepth 100000 in
set_option maxHeartbeats 4000000 in
theorem asm_any (s : Tx) (hss : s.length ≤ 9223372036854775807) (hO : Ops w) : Calls Tryd.prog 10 #[.string ⟨s.toArray⟩] w fun e w' => ∃ v, e = .returned (.tuple #[v, .int .i64 ((asmT s).2.1 : Nat), .int .i64 (asmT s).2.2]) ∧ w'.ownsRow w.heap.size 29 1 v (asmT s).1.length (wds (asmT s).1) ∧ Below w.heap.size w w' := by
  by_cases hs : 16384 < s.length
  · have HV : Hid (asmT s = ([], 0, 41)) := hide (by unfold asmT; rw [if_pos hs])
    have hsI : (16384 : Int) < (s.length : Int) := by omega
    go_enter Tryd.func10, Tryd.ntmps10
    go_upto_region 1 with fail
    go_step3
    go_wp2
    rw [Exit.noGoto_ret]
    go_ret3
    exact ⟨_, by rw [HV.out]; rfl, by rw [HV.out]; exact ⟨rfl, .inl ⟨rfl, rfl⟩⟩, Below.refl _ _⟩
  · have HV : Hid (asmT s = asmL (lbs (linesT s) (linesT s).length) (linesT s) 0 []) := hide (by unfold asmT; rw [if_neg hs])
    have hsI : ¬ (16384 : Int) < (s.length : Int) := by omega
    have HRL := hide (readLines_any w s (by omega) hO)
    have hcnt := split_count 10 s
    have HOk : Hid (∀ l ∈ linesT s, LnOk l) := hide (fun l hl => by
      unfold linesT at hl
      obtain ⟨p, _, rfl⟩ := List.mem_map.1 hl
      exact lineT_ok p)
    have hlen : (linesT s).length = (splitT 10 s).length := by simp [linesT]
    have HO := hide hO
    clear hO
    change Hid (Calls _ _ _ _ fun e w' => ∃ v, e = .returned v ∧ w'.ownsRow w.heap.size 60 8 v (splitT 10 s).length (lns (linesT s)) ∧ Below w.heap.size w w') at HRL
    generalize linesT s = ls at *
    rw [← hlen] at hcnt HRL
    clear hlen
    go_enter Tryd.func10, Tryd.ntmps10
    go_upto_region 1 with fail
    go_step3
    go_wp2_with fail
    refine HRL.out.mono ?_
    rintro e w1 ⟨v1, rfl, ho1, hb1⟩
    obtain ⟨_, ao, cc, rfl, hLr⟩ := LRow.of ho1
    have hs1 := hb1.size
    have HB1 := hide hb1
    have HLr := hide hLr
    clear ho1 hb1 hLr HRL
    go_wp2_with fail
    refine (findLabels_any w1 ls ao cc (by omega) (fun l hl => ⟨(HOk.out l hl).w0, (HOk.out l hl).w1⟩) HLr.out).mono ?_
    rintro e w2 ⟨r, rfl, hLb, hr, hb2⟩
    have HLr2 := hide (HLr.out.keep hb2)
    have HLb := hide hLb
    have HB2 := hide (HB1.out.trans (hb2.mono hs1))
    have hs2 := hb2.size
    have HPs := hide (atK_bound (lbs_bound (by omega : ls.length ≤ 16385) (fun l hl => ⟨(HOk.out l hl).w0, (HOk.out l hl).w1⟩) ls.length (Nat.le_refl _)))
    clear hLb hb2 HLr HB1
    generalize lbs ls ls.length = ps at *
    obtain ⟨R, hRR⟩ : ∃ R, asmL ps ls 0 [] = R := ⟨_, rfl⟩
    rw [hRR] at HV
    have HRR := hide hRR
    clear hRR
    go_upto_region 8 with fail
    go_step3
    go_upto_region 8 with fail
    go_loopw [7, 8, 9, 21] (fun v a c u wr => ∃ (k : Nat) (ws : List Nat), a = .int .i64 0 ∧ c = .int .i64 0 ∧ u = .int .i64 (k : Int) ∧ k ≤ ls.length ∧ asmL ps (ls.drop k) k ws = R ∧ ws.length ≤ 512 ∧ wr.ownsRow w2.heap.size 29 1 v ws.length (wds ws) ∧ Below w2.heap.size w2 wr) (fun _ _ _ u _ => ls.length - (intOf u).toNat)
    case atStart => exact ⟨0, [], rfl, rfl, rfl, by omega, HRR.out, by simp, ⟨rfl, .inl ⟨rfl, rfl⟩⟩, Below.refl _ _⟩
    case round =>
    obtain ⟨k, ws, rfl, rfl, rfl, hk, hst, hwl, hOw, hBw⟩ := hrel
    clear HRR
    obtain ⟨au, cu, rfl⟩ := own_shape hOw
    have HOw := hide hOw
    have HBw := hide hBw
    have hsw := hBw.size
    by_cases hlt : k < ls.length
    · obtain ⟨a, rfl, ha⟩ := (HLr2.out.keep hBw) k hlt
      have hd : (k : Int) < (ls.length : Int) := by omega
      have hok := HOk.out ls[k] (List.getElem_mem hlt)
      have HSt := hide (hst.symm.trans (asm_step hlt))
      have HA := hide ha
      have HLbw := hide (HLb.out.keep hBw)
      have HOpw := hide ((HO.out.below HB2.out).below hBw)
      have HM := hide (HPs.out ls[k].name)
      clear hOw hBw ha hst
      generalize ls[k] = L at *
      have hw0 := hok.w0
      have hw1 := hok.w1
      have HRm : Hid (fltT ps L k (ws.length : Int) = 0 → (ws.length : Int) + L.words ≤ 512) := hide flt_room
      obtain ⟨FL, hFL⟩ : ∃ z, fltT ps L k (ws.length : Int) = z := ⟨_, rfl⟩
      have HFl : Hid (∀ W, Lb W r ps → Calls Tryd.prog 24 #[.agg (lnC L), .int .i64 (k : Int), .int .i64 (ws.length : Int), .map (some r)] W fun e w' => e = .returned (.int .i64 FL) ∧ Below W.heap.size W w') := hide (fun W hW => by rw [← hFL]; exact fault_any W ps L k (ws.length : Int) r (by omega) (by omega) hw0 hw1 hW)
      have HG := hide (fun W (hR : W.ownsRow w2.heap.size 29 1 (.slice au ws.length cu) ws.length (wds ws)) (h1 : w2.heap.size ≤ W.heap.size) (h2 : Lb W r ps) (h3 : Ops W) => give_any W ps L ws _ w2.heap.size r hok HM.out hwl hR h1 h2 h3)
      rw [hFL] at HSt HRm
      have HNn : Hid (ws.length ≤ 512) := hide hwl
      clear hFL hok HM
      generalize wrdT ps L (ws.length : Int) = WD at *
      obtain ⟨wrong, label, ⟨op, ia, ib, imm⟩, name, words⟩ := L
      simp only [lnC] at HFl HG hw0 hw1 HSt HRm
      go_upto_region 10 with (refine loadT Tryd.underlying60 rfl [.bool wrong, .string ⟨label.toArray⟩, .int .i64 op, .int .i64 ia, .int .i64 ib, .int .i64 imm, .string ⟨name.toArray⟩, .int .i64 words] (by kernel_rfl) rfl _ rfl (a.add (k * 8)) rfl HA.out ?_)
      have hb3 := bel1 wr (.cells #[.bool wrong, .string ⟨label.toArray⟩, .int .i64 op, .int .i64 ia, .int .i64 ib, .int .i64 imm, .string ⟨name.toArray⟩, .int .i64 words] 60)
      have hG : LnAt (wr.alloc (.cells #[.bool wrong, .string ⟨label.toArray⟩, .int .i64 op, .int .i64 ia, .int .i64 ib, .int .i64 imm, .string ⟨name.toArray⟩, .int .i64 words] 60)) wr.heap.size ⟨wrong, label, ⟨op, ia, ib, imm⟩, name, words⟩ := heap_alloc_last _ _
      have HLb3 := hide (HLbw.out.keep hb3)
      have HOp3 := hide (HOpw.out.below hb3)
      have HO3 := hide (own_keep HOw.out hb3)
      have HB3 := hide (HBw.out.alloc hsw (.cells #[.bool wrong, .string ⟨label.toArray⟩, .int .i64 op, .int .i64 ia, .int .i64 ib, .int .i64 imm, .string ⟨name.toArray⟩, .int .i64 words] 60))
      have hs3 : w2.heap.size ≤ (wr.alloc (.cells #[.bool wrong, .string ⟨label.toArray⟩, .int .i64 op, .int .i64 ia, .int .i64 ib, .int .i64 imm, .string ⟨name.toArray⟩, .int .i64 words] 60)).heap.size := by simp; omega
      clear hb3 HA HLbw HOpw HOw HBw
      generalize wr.alloc (.cells #[.bool wrong, .string ⟨label.toArray⟩, .int .i64 op, .int .i64 ia, .int .i64 ib, .int .i64 imm, .string ⟨name.toArray⟩, .int .i64 words] 60) = W at *
      generalize wr.heap.size = g at *
      obtain ⟨q0, q1, q2, q3, q4, q5, q6, q7⟩ := hG.cells
      have hgl := hG.lt
      go_wp2_with fail
      refine (HFl.out _ HLb3.out).mono ?_
      rintro e w4 ⟨rfl, hb4⟩
      have hG4 := hG.keep hb4
      have HLb4 := hide (HLb3.out.keep hb4)
      have HOp4 := hide (HOp3.out.below hb4)
      have HO4 := hide (own_keep HO3.out hb4)
      have HB4 := hide (HB3.out.trans (hb4.mono hs3))
      have hs4 := Nat.le_trans hs3 hb4.size
      clear hb4 hG HLb3 HOp3 HO3 HB3 q0 q1 q2 q3 q4 q5 q6 q7 HFl
      obtain ⟨q0, q1, q2, q3, q4, q5, q6, q7⟩ := hG4.cells
      by_cases hz : FL = 0
      · subst hz
        have HSt2 : Hid (R = asmL ps (ls.drop (k + 1)) (k + 1) (ws ++ List.replicate words.toNat WD)) := hide (by rw [HSt.out]; rfl)
        have hrm := HRm.out rfl
        have HLen : Hid ((ws ++ List.replicate words.toNat WD).length ≤ 512) := hide (by simp; omega)
        clear HSt HRm
        go_wp2_with fail
        refine (HG.out _ HO4.out hs4 HLb4.out HOp4.out).mono ?_
        rintro e w5 ⟨v5, rfl, ho5, hb5⟩
        have HB5 := hide (HB4.out.trans hb5)
        have HO5 := hide ho5
        obtain ⟨a5, c5, rfl⟩ := own_shape ho5
        clear ho5 hb5 HB4 HO4 HG
        generalize ws ++ List.replicate words.toNat WD = ws5 at *
        go_wp2
        refine ⟨⟨k + 1, ws5, rfl, rfl, by simp, by omega, HSt2.out.symm, HLen.out, HO5.out, HB5.out⟩, ?_⟩
        simp [intOf]
        omega
      · have HSt2 : Hid (R = ([], k + 1, FL)) := hide (by rw [HSt.out, if_neg hz])
        have hzb : (FL == 0) = false := by simpa using hz
        clear HSt HRm HG hz
        go_wp2
        (try rw [Exit.noGoto_ret])
        go_ret3
        exact ⟨_, by rw [HV.out, HSt2.out]; rfl, by rw [HV.out, HSt2.out]; exact ⟨rfl, .inl ⟨rfl, rfl⟩⟩, HB2.out.trans (HB4.out.mono (by omega))⟩
    · obtain rfl : k = ls.length := by omega
      have HSt : Hid (R = (ws, 0, 0)) := hide (by rw [← hst, List.drop_length]; rfl)
      clear hOw hBw hst
      go_wp2
      (try rw [Exit.noGoto_ret])
      go_ret3
      exact ⟨_, by rw [HV.out, HSt.out]; rfl, by rw [HV.out, HSt.out]; exact own_mono HOw.out (by omega), HB2.out.trans (HBw.out.mono (by omega))⟩
end
end Go.Proofs.YtoaplkfmchphbaaDoor

namespace Go.Proofs.YtoaplkfmchphbaaDoor
open Go.RowKit
/-- the cells of eight registers and the program counter -/
def rgR (R : Nat → Nat) : List Value := (List.range 8).map fun i => Value.int .u32 (R i : Nat)
def rg (R : Nat → Nat) (pc : Nat) : List Value := rgR R ++ [.int .u32 (pc : Nat)]
structure RgOk (R : Nat → Nat) (pc : Nat) : Prop where
  r : ∀ i, i < 8 → R i < 4294967296
  p : pc < 4294967296
def put (R : Nat → Nat) (a v : Nat) : Nat → Nat := fun j => if j = a then v else R j
theorem rgR_len (R : Nat → Nat) : (rgR R).length = 8 := by simp [rgR]
theorem rg_len (R : Nat → Nat) (pc : Nat) : (rg R pc).length = 9 := by simp [rg, rgR]
theorem rg_size (R : Nat → Nat) (pc : Nat) : (rg R pc).toArray.size = 9 := by simp [rg_len]
theorem rg_get (R : Nat → Nat) (pc : Nat) {a : Nat} (h : a < 8) : (rg R pc)[a]? = some (.int .u32 (R a : Nat)) := by
  unfold rg; rw [List.getElem?_append_left (by rw [rgR_len]; exact h)]; simp [rgR, h]
theorem rg_pc (R : Nat → Nat) (pc : Nat) : (rg R pc)[8]? = some (.int .u32 (pc : Nat)) := by
  unfold rg; rw [List.getElem?_append_right (by rw [rgR_len]; omega), rgR_len]; rfl
theorem rg_ext {cs : List Value} {R : Nat → Nat} {pc : Nat} (hl : cs.length = 9) (h : ∀ a, a < 8 → cs[a]? = some (.int .u32 (R a : Nat))) (hp : cs[8]? = some (.int .u32 (pc : Nat))) : cs = rg R pc := by
  apply List.ext_getElem?
  intro j
  by_cases hj : j < 8
  · rw [h j hj, rg_get R pc hj]
  · by_cases h8 : j = 8
    · subst h8; rw [hp, rg_pc]
    · rw [List.getElem?_eq_none (by omega), List.getElem?_eq_none (by rw [rg_len]; omega)]
theorem rg_put (R : Nat → Nat) (pc : Nat) {a : Nat} (h : a < 8) (v : Nat) : (rg R pc).set a (.int .u32 (v : Nat)) = rg (put R a v) pc := by
  refine rg_ext (by rw [List.length_set, rg_len]) (fun j hj => ?_) ?_
  · rw [List.getElem?_set]
    split
    · rename_i e; subst e; simp [rg_len, put]; omega
    · rw [rg_get R pc hj]; simp [put]; rw [if_neg (by omega)]
  · rw [List.getElem?_set_ne (by omega), rg_pc]
theorem rg_setpc (R : Nat → Nat) (pc v : Nat) : (rg R pc).set 8 (.int .u32 (v : Nat)) = rg R v := by
  refine rg_ext (by rw [List.length_set, rg_len]) (fun j hj => ?_) ?_
  · rw [List.getElem?_set_ne (by omega), rg_get R pc hj]
  · rw [List.getElem?_set]; simp [rg_len]
theorem rg_ones (R : Nat → Nat) (pc : Nat) : ∀ u ∈ rg R pc, u.oneCell' = true := by
  intro u hu
  simp [rg, rgR] at hu
  rcases hu with ⟨i, _, rfl⟩ | rfl <;> rfl
theorem rg_one (R : Nat → Nat) (pc : Nat) : (rg R pc).toArray.all (·.oneCell') = true := all_oneCell_toArray (rg_ones R pc)
theorem rg_congr {R R' : Nat → Nat} {pc : Nat} (h : ∀ i, i < 8 → R i = R' i) : rg R pc = rg R' pc :=
  rg_ext (rg_len _ _) (fun a ha => by rw [rg_get _ _ ha, h a ha]) (rg_pc _ _)
theorem put_same (R : Nat → Nat) (a : Nat) : put R a (R a) = R := by
  funext j; unfold put; split
  · rename_i e; rw [e]
  · rfl
theorem rg_zero : (#[.int .u32 0, .int .u32 0, .int .u32 0, .int .u32 0, .int .u32 0, .int .u32 0, .int .u32 0, .int .u32 0, .int .u32 0] : Array Value) = (rg (fun _ => 0) 0).toArray := rfl
theorem info_regs : (Tryd.prog.info? 32).map (·.size) = some 9 := by kernel_rfl
theorem info_rg (R : Nat → Nat) (pc : Nat) : (Tryd.prog.info? 32).map (·.size) = some (rg R pc).toArray.size := by rw [rg_size]; exact info_regs
/-- registers at block N -/
structure Rb (w : World) (N : Nat) (R : Nat → Nat) (pc : Nat) : Prop where
  out : w.heap[N]? = some (.cells (rg R pc).toArray 32 (0, 0))
section
variable {w w' : World} {N : Nat} {R : Nat → Nat} {pc : Nat}
theorem Rb.get (h : Rb w N R pc) {j : Nat} {v : Value} (hv : (rg R pc)[j]? = some v) : w.cell? ⟨N, j, none⟩ = some v := by
  rw [cell_of_row _ _ _ _ _ _ h.out]; simpa using hv
theorem Rb.r (h : Rb w N R pc) {a : Nat} (ha : a < 8) : w.cell? ⟨N, a, none⟩ = some (.int .u32 (R a : Nat)) := h.get (rg_get R pc ha)
theorem Rb.p (h : Rb w N R pc) : w.cell? ⟨N, 8, none⟩ = some (.int .u32 (pc : Nat)) := h.get (rg_pc R pc)
theorem Rb.nine (h : Rb w N R pc) : w.cell? ⟨N, 0, none⟩ = some (.int .u32 (R 0 : Nat)) ∧ w.cell? ⟨N, 1, none⟩ = some (.int .u32 (R 1 : Nat)) ∧ w.cell? ⟨N, 2, none⟩ = some (.int .u32 (R 2 : Nat)) ∧ w.cell? ⟨N, 3, none⟩ = some (.int .u32 (R 3 : Nat)) ∧ w.cell? ⟨N, 4, none⟩ = some (.int .u32 (R 4 : Nat)) ∧ w.cell? ⟨N, 5, none⟩ = some (.int .u32 (R 5 : Nat)) ∧ w.cell? ⟨N, 6, none⟩ = some (.int .u32 (R 6 : Nat)) ∧ w.cell? ⟨N, 7, none⟩ = some (.int .u32 (R 7 : Nat)) ∧ w.cell? ⟨N, 8, none⟩ = some (.int .u32 (pc : Nat)) :=
  ⟨h.r (by omega), h.r (by omega), h.r (by omega), h.r (by omega), h.r (by omega), h.r (by omega), h.r (by omega), h.r (by omega), h.p⟩
theorem Rb.lt (h : Rb w N R pc) : N < w.heap.size := (Array.getElem?_eq_some_iff.1 h.out).1
theorem Rb.frz (h : Rb w N R pc) (o : Nat) : w.frozen? ⟨N, o, none⟩ = false := frozen_of_row w N o _ _ h.out
theorem Rb.keep (h : Rb w N R pc) (hB : w'.heap[N]? = w.heap[N]?) : Rb w' N R pc := ⟨by rw [hB]; exact h.out⟩
theorem Rb.below (h : Rb w N R pc) (hb : Below w.heap.size w w') : Rb w' N R pc := h.keep (hb.block N h.lt)
theorem Rb.new (w : World) (R : Nat → Nat) (pc : Nat) : Rb (w.alloc (.cells (rg R pc).toArray 32)) w.heap.size R pc := ⟨heap_alloc_last _ _⟩
theorem Rb.put (h : Rb w N R pc) {a : Nat} (ha : a < 8) (v : Nat) : Rb (w.setCell ⟨N, a, none⟩ (.int .u32 (v : Nat))) N (put R a v) pc := by
  refine ⟨?_⟩
  rw [heap_setCell_same w N a _ _ _ h.out, ← rg_put R pc ha v]
  simp
theorem Rb.setpc (h : Rb w N R pc) (v : Nat) : Rb (w.setCell ⟨N, 8, none⟩ (.int .u32 (v : Nat))) N R v := by
  refine ⟨?_⟩
  rw [heap_setCell_same w N 8 _ _ _ h.out, ← rg_setpc R pc v]
  simp
end
theorem eq_rgR (R : Nat → Nat) (d : Nat) (w : World) : (Op.equalIn (d + 2) 30 (.agg (rgR R).toArray) (.agg (rgR R).toArray)).run Tryd.prog w = .ok true w := by
  rw [show d + 2 = (d + 1) + 1 from rfl, Op.equalIn]
  simp only [Sem.run_bind, run_underlying Tryd.underlying30, Result.andThen_ok, Tryd.sizeOf29, Std.Legacy.Range.forIn_eq_forIn_range', Std.Legacy.Range.size, Nat.sub_zero, Nat.add_sub_cancel, Nat.div_one]
  have hl : ∀ i ∈ List.range' 0 8 1, i < 8 := fun i hi => by simpa using (List.mem_range'_1.1 hi).2
  generalize List.range' 0 8 1 = l at hl ⊢
  induction l with
  | nil => simp
  | cons i l ih =>
    have hi : i < 8 := hl i (by simp)
    have hg : (rgR R)[i]? = some (.int .u32 (R i : Nat)) := by simp [rgR, hi]
    have px : (part 29 (rgR R).toArray (i * 1)).run Tryd.prog w = .ok (.int .u32 (R i : Nat)) w := by
      simp [part, isAgg, run_underlying Tryd.underlying29, hg]
    have pe : (Op.equalIn (d + 1) 29 (.int .u32 (R i : Nat)) (.int .u32 (R i : Nat))).run Tryd.prog w = .ok true w := by
      rw [run_equalIn_int w d 29 .u32 .u32 _ _ Tryd.underlying29]
      simp
    simp only [List.forIn_cons, Sem.run_bind, px, pe, Result.andThen_ok, Bool.not_true, Bool.false_eq_true, if_false, Sem.run_pure]
    exact ih fun j hj => hl j (by simp [hj])
theorem rgR_eight (R : Nat → Nat) : (rgR R).toArray = #[.int .u32 (R 0 : Nat), .int .u32 (R 1 : Nat), .int .u32 (R 2 : Nat), .int .u32 (R 3 : Nat), .int .u32 (R 4 : Nat), .int .u32 (R 5 : Nat), .int .u32 (R 6 : Nat), .int .u32 (R 7 : Nat)] := rfl
set_option maxRecDepth 100000 in
theorem eq_rg (R : Nat → Nat) (pc : Nat) (w : World) : (Op.equalIn 10000 32 (.agg (rg R pc).toArray) (.agg (rg R pc).toArray)).run Tryd.prog w = .ok true w := by
  have e : (rg R pc).toArray = #[.int .u32 (R 0 : Nat), .int .u32 (R 1 : Nat), .int .u32 (R 2 : Nat), .int .u32 (R 3 : Nat), .int .u32 (R 4 : Nat), .int .u32 (R 5 : Nat), .int .u32 (R 6 : Nat), .int .u32 (R 7 : Nat), .int .u32 (pc : Nat)] := rfl
  have h := eq_rgR R 9997 w
  rw [rgR_eight] at h
  rw [e]
  simp [go_sem, h]
end Go.Proofs.YtoaplkfmchphbaaDoor
