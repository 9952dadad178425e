import Derived.BigRegion
import Derived.Laws.BitsAllLaws
import Derived.Test.YtiafodeabdhcoaaGreatDoorM15
namespace Go.Proofs.YtiafodeabdhcoaaGreatDoor
open Go.RowKit
theorem asm_step {ps : List (Tx × (Nat × Int))} {ls : List Ln} {k : Nat} {ws : List Nat} (h : k < ls.length) : asmL ps (ls.drop k) k ws = if fltT ps ls[k] k ws.length = 0 then asmL ps (ls.drop (k + 1)) (k + 1) (ws ++ List.replicate ls[k].words.toNat (wrdT ps ls[k] ws.length)) else ([], k + 1, fltT ps ls[k] k ws.length) := by
  rw [List.drop_eq_getElem_cons h]
  rfl
theorem flt_room {ps : List (Tx × (Nat × Int))} {l : Ln} {k : Nat} {a : Int} (h : fltT ps l k a = 0) : a + l.words ≤ 512 := by
  unfold fltT at h
  split at h
  · simp at h
  · split at h
    · simp at h
    · split at h
      · simp at h
      · split at h
        · simp at h
        · omega
section
variable (w : World)
set_option maxRecDepth 100000 in
set_option maxHeartbeats 4000000 in
theorem asm_any (s : Tx) (hss : s.length ≤ 9223372036854775807) (hO : Ops w) : Calls Tryz.prog 29 #[.string ⟨s.toArray⟩] w fun e w' => ∃ v, e = .returned (.tuple #[v, .int .i64 ((asmT s).2.1 : Nat), .int .i64 (asmT s).2.2]) ∧ w'.ownsRow w.heap.size 30 1 v (asmT s).1.length (wds (asmT s).1) ∧ Below w.heap.size w w' := by
  by_cases hs : 16384 < s.length
  · have HV : Hid (asmT s = ([], 0, 41)) := hide (by unfold asmT; rw [if_pos hs])
    have hsI : (16384 : Int) < (s.length : Int) := by omega
    go_enter Tryz.func29, Tryz.ntmps29
    go_upto_region 1 with fail
    go_step3
    go_wp2
    rw [Exit.noGoto_ret]
    go_ret3
    exact ⟨_, by rw [HV.out]; rfl, by rw [HV.out]; exact ⟨rfl, .inl ⟨rfl, rfl⟩⟩, Below.refl _ _⟩
  · have HV : Hid (asmT s = asmL (lbs (linesT s) (linesT s).length) (linesT s) 0 []) := hide (by unfold asmT; rw [if_neg hs])
    have hsI : ¬ (16384 : Int) < (s.length : Int) := by omega
    have HRL := hide (readLines_any w s (by omega) hO)
    have hcnt := split_count 10 s
    have HOk : Hid (∀ l ∈ linesT s, LnOk l) := hide (fun l hl => by
      unfold linesT at hl
      obtain ⟨p, _, rfl⟩ := List.mem_map.1 hl
      exact lineT_ok p)
    have hlen : (linesT s).length = (splitT 10 s).length := by simp [linesT]
    have HO := hide hO
    clear hO
    change Hid (Calls _ _ _ _ fun e w' => ∃ v, e = .returned v ∧ w'.ownsRow w.heap.size 109 8 v (splitT 10 s).length (lns (linesT s)) ∧ Below w.heap.size w w') at HRL
    generalize linesT s = ls at *
    rw [← hlen] at hcnt HRL
    clear hlen
    go_enter Tryz.func29, Tryz.ntmps29
    go_upto_region 1 with fail
    go_step3
    go_wp2_with fail
    refine HRL.out.mono ?_
    rintro e w1 ⟨v1, rfl, ho1, hb1⟩
    obtain ⟨_, ao, cc, rfl, hLr⟩ := LRow.of ho1
    have hs1 := hb1.size
    have HB1 := hide hb1
    have HLr := hide hLr
    clear ho1 hb1 hLr HRL
    go_wp2_with fail
    refine (findLabels_any w1 ls ao cc (by omega) (fun l hl => ⟨(HOk.out l hl).w0, (HOk.out l hl).w1⟩) HLr.out).mono ?_
    rintro e w2 ⟨r, rfl, hLb, hr, hb2⟩
    have HLr2 := hide (HLr.out.keep hb2)
    have HLb := hide hLb
    have HB2 := hide (HB1.out.trans (hb2.mono hs1))
    have hs2 := hb2.size
    have HPs := hide (atK_bound (lbs_bound (by omega : ls.length ≤ 16385) (fun l hl => ⟨(HOk.out l hl).w0, (HOk.out l hl).w1⟩) ls.length (Nat.le_refl _)))
    clear hLb hb2 HLr HB1
    generalize lbs ls ls.length = ps at *
    obtain ⟨R, hRR⟩ : ∃ R, asmL ps ls 0 [] = R := ⟨_, rfl⟩
    rw [hRR] at HV
    have HRR := hide hRR
    clear hRR
    go_upto_region 8 with fail
    go_step3
    go_upto_region 8 with fail
    go_loopw [7, 8, 9, 21] (fun v a c u wr => ∃ (k : Nat) (ws : List Nat), a = .int .i64 0 ∧ c = .int .i64 0 ∧ u = .int .i64 (k : Int) ∧ k ≤ ls.length ∧ asmL ps (ls.drop k) k ws = R ∧ ws.length ≤ 512 ∧ wr.ownsRow w2.heap.size 30 1 v ws.length (wds ws) ∧ Below w2.heap.size w2 wr) (fun _ _ _ u _ => ls.length - (intOf u).toNat)
    case atStart => exact ⟨0, [], rfl, rfl, rfl, by omega, HRR.out, by simp, ⟨rfl, .inl ⟨rfl, rfl⟩⟩, Below.refl _ _⟩
    case round =>
    obtain ⟨k, ws, rfl, rfl, rfl, hk, hst, hwl, hOw, hBw⟩ := hrel
    clear HRR
    obtain ⟨au, cu, rfl⟩ := own_shape hOw
    have HOw := hide hOw
    have HBw := hide hBw
    have hsw := hBw.size
    by_cases hlt : k < ls.length
    · obtain ⟨a, rfl, ha⟩ := (HLr2.out.keep hBw) k hlt
      have hd : (k : Int) < (ls.length : Int) := by omega
      have hok := HOk.out ls[k] (List.getElem_mem hlt)
      have HSt := hide (hst.symm.trans (asm_step hlt))
      have HA := hide ha
      have HLbw := hide (HLb.out.keep hBw)
      have HOpw := hide ((HO.out.below HB2.out).below hBw)
      have HM := hide (HPs.out ls[k].name)
      clear hOw hBw ha hst
      generalize ls[k] = L at *
      have hw0 := hok.w0
      have hw1 := hok.w1
      have HRm : Hid (fltT ps L k (ws.length : Int) = 0 → (ws.length : Int) + L.words ≤ 512) := hide flt_room
      obtain ⟨FL, hFL⟩ : ∃ z, fltT ps L k (ws.length : Int) = z := ⟨_, rfl⟩
      have HFl : Hid (∀ W, Lb W r ps → Calls Tryz.prog 46 #[.agg (lnC L), .int .i64 (k : Int), .int .i64 (ws.length : Int), .map (some r)] W fun e w' => e = .returned (.int .i64 FL) ∧ Below W.heap.size W w') := hide (fun W hW => by rw [← hFL]; exact fault_any W ps L k (ws.length : Int) r (by omega) (by omega) hw0 hw1 hW)
      have HG := hide (fun W (hR : W.ownsRow w2.heap.size 30 1 (.slice au ws.length cu) ws.length (wds ws)) (h1 : w2.heap.size ≤ W.heap.size) (h2 : Lb W r ps) (h3 : Ops W) => give_any W ps L ws _ w2.heap.size r hok HM.out hwl hR h1 h2 h3)
      rw [hFL] at HSt HRm
      have HNn : Hid (ws.length ≤ 512) := hide hwl
      clear hFL hok HM
      generalize wrdT ps L (ws.length : Int) = WD at *
      obtain ⟨wrong, label, ⟨op, ia, ib, imm⟩, name, words⟩ := L
      simp only [lnC] at HFl HG hw0 hw1 HSt HRm
      go_upto_region 10 with (refine loadT Tryz.underlying109 rfl [.bool wrong, .string ⟨label.toArray⟩, .int .i64 op, .int .i64 ia, .int .i64 ib, .int .i64 imm, .string ⟨name.toArray⟩, .int .i64 words] (by kernel_rfl) rfl _ rfl (a.add (k * 8)) rfl HA.out ?_)
      have hb3 := bel1 wr (.cells #[.bool wrong, .string ⟨label.toArray⟩, .int .i64 op, .int .i64 ia, .int .i64 ib, .int .i64 imm, .string ⟨name.toArray⟩, .int .i64 words] 109)
      have hG : LnAt (wr.alloc (.cells #[.bool wrong, .string ⟨label.toArray⟩, .int .i64 op, .int .i64 ia, .int .i64 ib, .int .i64 imm, .string ⟨name.toArray⟩, .int .i64 words] 109)) wr.heap.size ⟨wrong, label, ⟨op, ia, ib, imm⟩, name, words⟩ := heap_alloc_last _ _
      have HLb3 := hide (HLbw.out.keep hb3)
      have HOp3 := hide (HOpw.out.below hb3)
      have HO3 := hide (own_keep HOw.out hb3)
      have HB3 := hide (HBw.out.alloc hsw (.cells #[.bool wrong, .string ⟨label.toArray⟩, .int .i64 op, .int .i64 ia, .int .i64 ib, .int .i64 imm, .string ⟨name.toArray⟩, .int .i64 words] 109))
      have hs3 : w2.heap.size ≤ (wr.alloc (.cells #[.bool wrong, .string ⟨label.toArray⟩, .int .i64 op, .int .i64 ia, .int .i64 ib, .int .i64 imm, .string ⟨name.toArray⟩, .int .i64 words] 109)).heap.size := by simp; omega
      clear hb3 HA HLbw HOpw HOw HBw
      generalize wr.alloc (.cells #[.bool wrong, .string ⟨label.toArray⟩, .int .i64 op, .int .i64 ia, .int .i64 ib, .int .i64 imm, .string ⟨name.toArray⟩, .int .i64 words] 109) = W at *
      generalize wr.heap.size = g at *
      obtain ⟨q0, q1, q2, q3, q4, q5, q6, q7⟩ := hG.cells
      have hgl := hG.lt
      go_wp2_with fail
      refine (HFl.out _ HLb3.out).mono ?_
      rintro e w4 ⟨rfl, hb4⟩
      have hG4 := hG.keep hb4
      have HLb4 := hide (HLb3.out.keep hb4)
      have HOp4 := hide (HOp3.out.below hb4)
      have HO4 := hide (own_keep HO3.out hb4)
      have HB4 := hide (HB3.out.trans (hb4.mono hs3))
      have hs4 := Nat.le_trans hs3 hb4.size
      clear hb4 hG HLb3 HOp3 HO3 HB3 q0 q1 q2 q3 q4 q5 q6 q7 HFl
      obtain ⟨q0, q1, q2, q3, q4, q5, q6, q7⟩ := hG4.cells
      by_cases hz : FL = 0
      · subst hz
        have HSt2 : Hid (R = asmL ps (ls.drop (k + 1)) (k + 1) (ws ++ List.replicate words.toNat WD)) := hide (by rw [HSt.out]; rfl)
        have hrm := HRm.out rfl
        have HLen : Hid ((ws ++ List.replicate words.toNat WD).length ≤ 512) := hide (by simp; omega)
        clear HSt HRm
        go_wp2_with fail
        refine (HG.out _ HO4.out hs4 HLb4.out HOp4.out).mono ?_
        rintro e w5 ⟨v5, rfl, ho5, hb5⟩
        have HB5 := hide (HB4.out.trans hb5)
        have HO5 := hide ho5
        obtain ⟨a5, c5, rfl⟩ := own_shape ho5
        clear ho5 hb5 HB4 HO4 HG
        generalize ws ++ List.replicate words.toNat WD = ws5 at *
        go_wp2
        refine ⟨⟨k + 1, ws5, rfl, rfl, by simp, by omega, HSt2.out.symm, HLen.out, HO5.out, HB5.out⟩, ?_⟩
        simp [intOf]
        omega
      · have HSt2 : Hid (R = ([], k + 1, FL)) := hide (by rw [HSt.out, if_neg hz])
        have hzb : (FL == 0) = false := by simpa using hz
        clear HSt HRm HG hz
        go_wp2
        (try rw [Exit.noGoto_ret])
        go_ret3
        exact ⟨_, by rw [HV.out, HSt2.out]; rfl, by rw [HV.out, HSt2.out]; exact ⟨rfl, .inl ⟨rfl, rfl⟩⟩, HB2.out.trans (HB4.out.mono (by omega))⟩
    · obtain rfl : k = ls.length := by omega
      have HSt : Hid (R = (ws, 0, 0)) := hide (by rw [← hst, List.drop_length]; rfl)
      clear hOw hBw hst
      go_wp2
      (try rw [Exit.noGoto_ret])
      go_ret3
      exact ⟨_, by rw [HV.out, HSt.out]; rfl, by rw [HV.out, HSt.out]; exact own_mono HOw.out (by omega), HB2.out.trans (HBw.out.mono (by omega))⟩
end
end Go.Proofs.YtiafodeabdhcoaaGreatDoor

namespace Go.Proofs.YtiafodeabdhcoaaGreatDoor
open Go.RowKit
/-- what Compile tells -/
def compT (s : Tx) : List Nat × Nat × Nat := if (ldT s).2.2 ≠ 0 then ([], (ldT s).2.1, (ldT s).2.2) else ((asmT (ldT s).1.2.2).1, 0, 0)
theorem own_base {w : World} {b b' k n : Nat} {e : TypeId} {v : Value} {xs : List Value} (h : w.ownsRow b e k v n xs) (hb : b' ≤ b) : w.ownsRow b' e k v n xs := by
  refine ⟨h.1, ?_⟩
  rcases h.2 with h2 | ⟨g, cap, cur, h1, h2, h3⟩
  · exact .inl h2
  · exact .inr ⟨g, cap, cur, h1, Nat.le_trans hb h2, h3⟩
set_option maxRecDepth 100000 in
set_option maxHeartbeats 4000000 in
theorem words_any (w : World) (av : Option Addr) (n cv : Nat) (v : Value) (t : Tx) (ht : t.length ≤ 9223372036854775807) (hG : Lg w) : Calls Tryz.prog 23 #[.agg (pgL av n cv v t).toArray] w fun e w' => ∃ u, e = .returned u ∧ w'.ownsRow (w.heap.size + 1) 30 1 u (asmT t).1.length (wds (asmT t).1) ∧ Below w.heap.size w w' := by
  have hb1 : Below w.heap.size w (w.alloc (.cells (pgL av n cv v t).toArray 57)) := (Below.refl _ _).alloc (Nat.le_refl _) _
  have HB := hide hb1
  have HG := hide (hG.below hb1)
  have c2 : (w.alloc (.cells (pgL av n cv v t).toArray 57)).cell? ⟨w.heap.size, 2, none⟩ = some (.string ⟨t.toArray⟩) := by
    rw [cell_of_row _ _ _ _ _ _ (heap_alloc_last _ _)]; rfl
  have hz : (w.alloc (.cells (pgL av n cv v t).toArray 57)).heap.size = w.heap.size + 1 := by simp
  have HZ := hide hz
  clear hG hb1 hz
  go_enter Tryz.func23, Tryz.ntmps23
  go_upto_region 1 with fail
  generalize w.alloc (.cells (pgL av n cv v t).toArray 57) = w1 at *
  go_wp2_with fail
  refine (asm_any w1 t ht HG.out.ops).mono ?_
  rintro e w2 ⟨u, rfl, h1, h2⟩
  have H1 := hide h1
  have H2 := hide (HB.out.trans (h2.mono (by have := HZ.out; omega)))
  rw [HZ.out] at H1
  clear h1 h2
  go_wp2
  go_ret
  exact ⟨u, rfl, H1.out, H2.out⟩
set_option maxRecDepth 100000 in
set_option maxHeartbeats 8000000 in
theorem comp_any (w : World) (s : Tx) (hs : s.length ≤ 4000000000000000000) (hG : Lg w) (h9 : 9 ≤ w.heap.size) : Calls Tryz.prog 16 #[.string ⟨s.toArray⟩] w fun e w' => ∃ u, e = .returned (.tuple #[u, .int .i64 ((compT s).2.1 : Nat), .int .i64 ((compT s).2.2 : Nat)]) ∧ w'.ownsRow w.heap.size 30 1 u (compT s).1.length (wds (compT s).1) ∧ Below w.heap.size w w' := by
  have HG := hide hG
  have HL := hide (load_any w s hs hG h9)
  have HV : Hid (compT s = if (ldT s).2.2 ≠ 0 then ([], (ldT s).2.1, (ldT s).2.2) else ((asmT (ldT s).1.2.2).1, 0, 0)) := hide rfl
  obtain ⟨q, hq⟩ : ∃ q, ldT s = q := ⟨_, rfl⟩
  rw [hq] at HL HV
  obtain ⟨⟨vs, st, tx⟩, ln, er⟩ := q
  clear hG hq
  go_enter Tryz.func16, Tryz.ntmps16
  go_wp2_with fail
  refine HL.out.mono ?_
  rintro e w2 ⟨av, cv, v, rfl, hrw, hls, hb2, htl, _⟩
  obtain ⟨v1, v2, v3, rfl⟩ := ls_shape hls
  have hb3 : Below w2.heap.size w2 (putB (w2.alloc (.cells #[.slice none 0 0, .slice none 0 0, .string ⟨#[]⟩] 57)) w2.heap.size (pgL av vs.length cv (.slice v1 v2 v3) tx) 57) := putB_below ((Below.refl _ _).alloc (Nat.le_refl _) _) (Nat.le_refl _) _ _
  have HZ3 : Hid (Blk (w2.alloc (.cells #[.slice none 0 0, .slice none 0 0, .string ⟨#[]⟩] 57)) w2.heap.size 57 [.slice none 0 0, .slice none 0 0, .string ⟨#[]⟩]) := hide ⟨heap_alloc_last _ _⟩
  have HP4 := hide (HZ3.out.put (pgL av vs.length cv (.slice v1 v2 v3) tx))
  have HB4 := hide (hb2.trans (hb3.mono hb2.size))
  have HG4 := hide (HG.out.below HB4.out)
  have HZ2 := hide hb2.size
  clear hb2 hb3 hrw hls HL
  go_upto_region 2 with (refine storeB (pgL av vs.length cv (.slice v1 v2 v3) tx) info_pgc rfl rfl _ _ rfl w2.heap.size rfl rfl _ HZ3.out rfl ?_)
  generalize hw4 : putB (w2.alloc (.cells #[.slice none 0 0, .slice none 0 0, .string ⟨#[]⟩] 57)) w2.heap.size (pgL av vs.length cv (.slice v1 v2 v3) tx) 57 = w4 at *
  clear hw4 HZ3
  by_cases he : er = 0
  · subst he
    rw [if_neg (by decide)] at HV
    have k0 := HP4.out.get (j := 0) rfl
    have k1 := HP4.out.get (j := 1) rfl
    have k2 := HP4.out.get (j := 2) rfl
    have HWd := hide (words_any w4 av vs.length cv (.slice v1 v2 v3) tx (Nat.le_trans htl (by omega)) HG4.out)
    go_wp2_with fail
    refine HWd.out.mono ?_
    rintro e w5 ⟨u, rfl, h1, h2⟩
    have H1 := hide (own_base h1 (b' := w.heap.size) (by have := HB4.out.size; omega))
    have H2 := hide (HB4.out.trans (h2.mono HB4.out.size))
    clear h1 h2 HWd k0 k1 k2
    go_wp2
    go_ret3
    rw [HV.out]
    exact ⟨u, rfl, H1.out, H2.out⟩
  · have hei : ((er : Int) != 0) = true := by simp; omega
    have hei2 : ((er : Int) == 0) = false := by simp; omega
    rw [if_pos he] at HV
    clear he
    go_wp2
    go_ret3
    rw [HV.out]
    exact ⟨.slice none 0 0, rfl, World.ownsRow_nil _ _ _ _, HB4.out⟩
end Go.Proofs.YtiafodeabdhcoaaGreatDoor

namespace Go.Proofs.YtiafodeabdhcoaaGreatDoor
open Go.RowKit
/-- a source that is gone through -/
structure Mc where
  outs : List (Nat × Nat)
  state : Nat
  code : Nat
  taken : Nat
  used : Nat
  words : List Nat
  answers : List Nat
  fuel : Nat
  over : Bool
def Mc.endM (m : Mc) (st cd : Nat) : Mc := if m.over then m else { m with over := true, state := st, code := cd }
def Mc.rest (m : Mc) : Mc := if m.fuel = 0 then m.endM 1 0 else m
def Mc.spend (m : Mc) : Bool × Mc := if m.rest.over then (false, m.rest) else (true, { m.rest with fuel := m.rest.fuel - 1, used := m.rest.used + 1 })
def Mc.tell (m : Mc) (call v : Nat) : Mc := if m.over then m else { m with outs := m.outs ++ [(call, v)] }
def Mc.stop (m : Mc) (cd : Nat) : Mc := (m.tell 1 cd).endM 3 cd
def Mc.next (m : Mc) : Nat × Mc := match m.answers with | [] => (0, m) | a :: r => (a, { m with answers := r, taken := m.taken + 1 })
def Mc.ask (m : Mc) : Nat × Mc := if m.spend.1 = false then (0, m.spend.2) else (m.spend.2.next.1, m.spend.2.next.2.tell 24 m.spend.2.next.1)
def Mc.word (m : Mc) (k : Nat) : Nat := m.words.getD k 0
def truT (b : Bool) : Nat := if b then 1 else 0
/-- an operator's value -/
def apV (op : Tx) (l r : Nat) : Nat :=
  if op = [124, 124] then truT (r != 0)
  else if op = [38, 38] then truT (r != 0)
  else if op = [124] then l ||| r
  else if op = [94] then l ^^^ r
  else if op = [38] then l &&& r
  else if op = [61, 61] then truT (l == r)
  else if op = [33, 61] then truT (l != r)
  else if op = [60] then truT (decide (l < r))
  else if op = [60, 61] then truT (decide (l ≤ r))
  else if op = [62] then truT (decide (r < l))
  else if op = [62, 61] then truT (decide (r ≤ l))
  else if op = [60, 60] then (if r < 32 then (l * 2 ^ r) % 4294967296 else 0)
  else if op = [62, 62] then (if r < 32 then l / 2 ^ r else 0)
  else if op = [43] then (l + r) % 4294967296
  else if op = [45] then (l + (4294967296 - r)) % 4294967296
  else if op = [42] then (l * r) % 4294967296
  else if op = [47] then l / r
  else l % r
def sgV (op : Tx) (v : Nat) : Nat :=
  if op = [45] then (4294967296 - v) % 4294967296
  else if op = [126] then 4294967295 - v
  else truT (v == 0)
def divT (op : Tx) : Bool := op == [47] || op == [37]
def Mc.index (fl : Mc → Nat × Mc) (v : Vr) (m : Mc) : Option Nat × Mc := if v.size ≤ (fl m).1 then (none, (fl m).2.stop 4294967295) else (some (fl m).1, (fl m).2)
def Mc.elem (fl : Mc → Nat × Mc) (v : Vr) (m : Mc) : Nat × Mc :=
  match Mc.index fl v m with
  | (none, m1) => (0, m1)
  | (some i, m1) => (m1.word (v.at' - 384 + i), m1)
def Mc.opr2 (fr : Mc → Nat × Mc) (op : Tx) (a : Nat) (m : Mc) : Nat × Mc :=
  if (fr m).1 = 0 ∧ divT op = true then (0, (fr m).2.endM 4 73) else (apV op a (fr m).1, (fr m).2)
def Mc.opr (fl fr : Mc → Nat × Mc) (op : Tx) (m : Mc) : Nat × Mc :=
  if op = [38, 38] ∧ (fl m).1 = 0 then (0, (fl m).2)
  else if op = [124, 124] ∧ (fl m).1 ≠ 0 then (1, (fl m).2)
  else Mc.opr2 fr op (fl m).1 (fl m).2
/-- an expression's value -/
def mxF : Ex → Mc → Nat × Mc
  | ⟨k, v, vr, op, l, r, _⟩, m =>
    if k = 0 then (v, m)
    else if k = 1 then m.ask
    else if k = 2 then (m.word (vr.at' - 384), m)
    else if k = 3 then Mc.elem (fun m => match l with | none => (0, m) | some e => mxF e m) vr m
    else if k = 4 then (sgV op (match l with | none => (0, m) | some e => mxF e m).1, (match l with | none => (0, m) | some e => mxF e m).2)
    else Mc.opr (fun m => match l with | none => (0, m) | some e => mxF e m) (fun m => match r with | none => (0, m) | some e => mxF e m) op m
def mxO (o : Option Ex) (m : Mc) : Nat × Mc := match o with | none => (0, m) | some e => mxF e m
theorem mxF_eq (k v : Nat) (vr : Vr) (op : Tx) (l r : Option Ex) (dp : Nat) (m : Mc) : mxF ⟨k, v, vr, op, l, r, dp⟩ m =
    if k = 0 then (v, m)
    else if k = 1 then m.ask
    else if k = 2 then (m.word (vr.at' - 384), m)
    else if k = 3 then Mc.elem (mxO l) vr m
    else if k = 4 then (sgV op (mxO l m).1, (mxO l m).2)
    else Mc.opr (mxO l) (mxO r) op m := by
  conv => lhs; unfold mxF
  cases l <;> cases r <;> rfl
def Mc.put (m : Mc) (k v : Nat) : Mc := { m with words := m.words.set k v }
def Mc.assign (m : Mc) (v : Vr) (idx val : Option Ex) : Mc :=
  match idx with
  | none => (mxO val m).2.put (v.at' - 384) (mxO val m).1
  | some i =>
    match Mc.index (mxF i) v m with
    | (none, m1) => m1
    | (some k, m1) => (mxO val m1).2.put (v.at' - 384 + k) (mxO val m1).1
/-- a loop, so many times at most -/
def whF (cond : Mc → Nat × Mc) (body : Mc → Nat × Mc) : Nat → Mc → Mc
  | 0, m => m
  | n + 1, m =>
    if m.spend.1 = false then m.spend.2
    else if (cond m.spend.2).1 = 0 then (cond m.spend.2).2
    else if (body (cond m.spend.2).2).1 = 1 then (body (cond m.spend.2).2).2
    else whF cond body n (body (cond m.spend.2).2).2
/-- one statement: how it is left, and the machine -/
def Mc.stm (word : Tx) (v : Vr) (idx val : Option Ex) (fb fr : Mc → Nat × Mc) (m : Mc) : Nat × Mc :=
  if word = [123] then fb m
  else if m.spend.1 = false then (0, m.spend.2)
  else if word = [61] then (0, m.spend.2.assign v idx val)
  else if word = [105, 102] then (if (mxO val m.spend.2).1 ≠ 0 then fb (mxO val m.spend.2).2 else fr (mxO val m.spend.2).2)
  else if word = [119, 104, 105, 108, 101] then (0, whF (mxO val) fb (m.spend.2.fuel + 1) m.spend.2)
  else if word = [101, 109, 105, 116] then (0, (mxO val m.spend.2).2.tell 14 (mxO val m.spend.2).1)
  else if word = [115, 116, 111, 112] then (0, (mxO val m.spend.2).2.stop (mxO val m.spend.2).1)
  else if word = [121, 105, 101, 108, 100] then (0, m.spend.2.tell 0 0)
  else if word = [98, 114, 101, 97, 107] then (1, m.spend.2)
  else if word = [99, 111, 110, 116, 105, 110, 117, 101] then (2, m.spend.2)
  else (0, m.spend.2)
def msF (word : Tx) (v : Vr) (idx val : Option Ex) (_oth : Nat) (fb fr : Nat × Mc → Nat × Mc) (p : Nat × Mc) : Nat × Mc :=
  if p.1 ≠ 0 then p else Mc.stm word v idx val (fun m => fb (0, m)) (fun m => fr (0, m)) p.2
/-- statements, one behind the other, till one is left -/
def maO (o : Option Sl) (m : Mc) : Nat × Mc := slFO msF o (0, m)
def mc0 (answers : List Nat) (fuel : Nat) : Mc := ⟨[], 0, 0, 0, 0, List.replicate 96 0, answers, fuel, false⟩
def meanT (o : Option Sl) (answers : List Nat) (fuel : Nat) : Mc := (maO o (mc0 answers fuel)).2.stop 0
/-- what Eval tells: the meaning, if there is one; the line and the error -/
def evT (s : Tx) (answers : List Nat) (fuel : Int) : Option Mc × Nat × Nat :=
  if fuel < 0 ∨ 65536 < fuel then (none, 0, 1)
  else if (ldT s).2.2 ≠ 0 then (none, (ldT s).2.1, (ldT s).2.2)
  else (some (meanT (ldT s).1.2.1 answers fuel.toNat), 0, 0)
end Go.Proofs.YtiafodeabdhcoaaGreatDoor

namespace Go.Proofs.YtiafodeabdhcoaaGreatDoor
open Go.RowKit
def outL (o : Nat × Nat) : List Value := [.int .i64 (o.1 : Nat), .int .u32 (o.2 : Nat)]
/-- a machine's cells; ov: its list of calls, an: the answers that are left -/
def mcL (ov an : Value) (m : Mc) : List Value := [ov, .int .i64 (m.state : Nat), .int .i64 (m.code : Nat), .int .i64 (m.taken : Nat), .int .i64 (m.used : Nat)] ++ (m.words.map (fun x => Value.int .u32 (x : Nat)) ++ [an, .int .i64 (m.fuel : Nat), .bool m.over])
/-- what is known of a machine; d: how many calls may still be told without a unit -/
structure Mok (d : Nat) (m : Mc) : Prop where
  wl : m.words.length = 96
  wb : ∀ x ∈ m.words, x ≤ 4294967295
  ab : ∀ x ∈ m.answers, x ≤ 4294967295
  u : m.used + m.fuel ≤ 1000000
  t : m.taken + m.fuel ≤ 1000000
  o : m.outs.length + m.fuel + (if m.over then 0 else 1) + d ≤ 1000000
/-- the answers that are left, in the caller's memory -/
def AnAt (w : World) (g : Nat) (an : Value) (l : List Nat) : Prop := ∃ a c, an = .slice a l.length c ∧ l.length ≤ c ∧ ∀ i (h : i < l.length), ∃ b : Addr, a = some b ∧ b.block < g ∧ w.cell? (b.add i) = some (.int .u32 (l[i] : Nat))
/-- the machine in block g -/
structure MAt (w : World) (g : Nat) (m : Mc) : Prop where
  out : ∃ ov an, Blk w g 68 (mcL ov an m) ∧ w.ownsRow (g + 1) 32 2 ov m.outs.length (m.outs.flatMap outL) ∧ AnAt w g an m.answers
theorem MAt.lt {w : World} {g : Nat} {m : Mc} (h : MAt w g m) : g < w.heap.size := by obtain ⟨ov, an, h1, _⟩ := h.out; exact h1.lt
theorem or_keep {w w' : World} {base n k : Nat} {e : TypeId} {v : Value} {xs : List Value} (h : w.ownsRow base e k v n xs) (hk : ∀ b, base ≤ b → b < w.heap.size → w'.heap[b]? = w.heap[b]?) : w'.ownsRow base e k v n xs := by
  refine ⟨h.1, ?_⟩
  rcases h.2 with h2 | ⟨g, cap, cur, h1, h2, h3, h4⟩
  · exact .inl h2
  · exact .inr ⟨g, cap, cur, h1, h2, by rw [hk g h2 (Array.getElem?_eq_some_iff.1 h3).1]; exact h3, h4⟩
theorem outL_len (o : Nat × Nat) : (outL o).length = 2 := rfl
theorem outs_len (l : List (Nat × Nat)) : (l.flatMap outL).length = l.length * 2 := cat_len outL 2 outL_len l
section
variable {w w' : World} {g : Nat} {m : Mc}
theorem AnAt.below {an : Value} {l : List Nat} (h : AnAt w g an l) (hb : Below g w w') : AnAt w' g an l := by
  obtain ⟨a, c, h1, h2, h3⟩ := h
  refine ⟨a, c, h1, h2, fun i hi => ?_⟩
  obtain ⟨b, k1, k2, k3⟩ := h3 i hi
  exact ⟨b, k1, k2, by rw [World.cell?_of_block (hb.block (b.add i).block (by rw [add_blk]; exact k2))]; exact k3⟩
theorem MAt.below (h : MAt w g m) (hb : Below w.heap.size w w') : MAt w' g m := by
  obtain ⟨ov, an, h1, h2, h3⟩ := h.out
  exact ⟨ov, an, h1.below hb h1.lt, or_keep h2 (fun b _ hb' => hb.block b hb'), h3.below (hb.mono (Nat.le_of_lt h1.lt))⟩
/-- a store into the machine's block, the list of calls and the answers aside -/
theorem MAt.store {m' : Mc} (h : MAt w g m) (j : Nat) (x : Value) (hj : ∀ ov an, (mcL ov an m).set j x = mcL ov an m') (ho : m'.outs = m.outs) (ha : m'.answers = m.answers) : MAt (w.setCell ⟨g, j, none⟩ x) g m' := by
  obtain ⟨ov, an, h1, h2, h3⟩ := h.out
  have k1 := h1.set j x
  rw [hj] at k1
  refine ⟨ov, an, k1, ?_, ?_⟩
  · rw [ho]
    exact or_keep h2 (fun b hb' _ => heap_setCell_other _ _ _ _ (by show b ≠ g; omega))
  · rw [ha]
    exact h3.below ((Below.refl g w).setCell (p := ⟨g, j, none⟩) (Nat.le_refl g) x)
theorem MAt.cell (h : MAt w g m) {j : Nat} {x : Value} (hj : ∀ ov an, (mcL ov an m)[j]? = some x) : w.cell? ⟨g, j, none⟩ = some x ∧ w.frozen? ⟨g, j, none⟩ = false := by
  obtain ⟨ov, an, h1, h2, h3⟩ := h.out
  exact ⟨h1.get (hj _ _), h1.frz _⟩
end
section
variable (ov an : Value) (m : Mc)
theorem mc_get (hw : m.words.length = 96) : (mcL ov an m)[101]? = some an ∧ (mcL ov an m)[102]? = some (.int .i64 (m.fuel : Nat)) ∧ (mcL ov an m)[103]? = some (.bool m.over) := by
  have hl : (m.words.map (fun x => Value.int .u32 (x : Nat))).length = 96 := by simpa using hw
  refine ⟨?_, ?_, ?_⟩
  · show (m.words.map _ ++ _)[96]? = _
    rw [List.getElem?_append_right (by omega), hl]; rfl
  · show (m.words.map _ ++ _)[97]? = _
    rw [List.getElem?_append_right (by omega), hl]; rfl
  · show (m.words.map _ ++ _)[98]? = _
    rw [List.getElem?_append_right (by omega), hl]; rfl
theorem mc_word (hw : m.words.length = 96) (k : Nat) (hk : k < 96) : (mcL ov an m)[5 + k]? = some (.int .u32 (m.word k : Nat)) := by
  have hl : (m.words.map (fun x => Value.int .u32 (x : Nat))).length = 96 := by simpa using hw
  show ([ov, .int .i64 (m.state : Nat), .int .i64 (m.code : Nat), .int .i64 (m.taken : Nat), .int .i64 (m.used : Nat)] ++ _)[5 + k]? = _
  rw [List.getElem?_append_right (by simp)]
  show (_ ++ _)[5 + k - 5]? = _
  rw [show 5 + k - 5 = k by omega, List.getElem?_append_left (by omega)]
  have hk' : k < m.words.length := by omega
  simp [Mc.word, hk']
theorem mc_set (hw : m.words.length = 96) : (∀ x, (mcL ov an m).set 101 x = mcL ov x m) ∧ (∀ n : Nat, (mcL ov an m).set 102 (.int .i64 (n : Nat)) = mcL ov an { m with fuel := n }) ∧ (∀ b, (mcL ov an m).set 103 (.bool b) = mcL ov an { m with over := b }) := by
  have hl : (m.words.map (fun x => Value.int .u32 (x : Nat))).length = 96 := by simpa using hw
  refine ⟨fun x => ?_, fun n => ?_, fun b => ?_⟩
  · show _ :: _ :: _ :: _ :: _ :: (m.words.map _ ++ _).set 96 _ = _
    rw [List.set_append_right _ _ (by omega), hl]; rfl
  · show _ :: _ :: _ :: _ :: _ :: (m.words.map _ ++ _).set 97 _ = _
    rw [List.set_append_right _ _ (by omega), hl]; rfl
  · show _ :: _ :: _ :: _ :: _ :: (m.words.map _ ++ _).set 98 _ = _
    rw [List.set_append_right _ _ (by omega), hl]; rfl
theorem mc_put (hw : m.words.length = 96) (k v : Nat) (hk : k < 96) : (mcL ov an m).set (5 + k) (.int .u32 (v : Nat)) = mcL ov an (m.put k v) := by
  have hl : (m.words.map (fun x => Value.int .u32 (x : Nat))).length = 96 := by simpa using hw
  have e : ∀ (a b c d e : Value) (l : List Value), ([a, b, c, d, e] ++ l).set (5 + k) (.int .u32 (v : Nat)) = [a, b, c, d, e] ++ l.set k (.int .u32 (v : Nat)) := fun a b c d e l => by
    rw [List.set_append_right _ _ (by simp)]
    congr 2
    simp
  unfold mcL
  rw [e, List.set_append_left _ _ (by omega)]
  simp [Mc.put, List.map_set]
end
theorem mcL_len (ov an : Value) (m : Mc) (hw : m.words.length = 96) : (mcL ov an m).length = 104 := by simp [mcL, hw]
end Go.Proofs.YtiafodeabdhcoaaGreatDoor

namespace Go.Proofs.YtiafodeabdhcoaaGreatDoor
open Go.RowKit
/-- what a machine's calls keep -/
structure Km (g : Nat) (w w' : World) : Prop where
  b : Below g w w'
  o : Lib.OthersKept 32 (some g) w w'
theorem Km.refl (g : Nat) (w : World) : Km g w w := ⟨Below.refl g w, Lib.OthersKept.refl _ _ w⟩
theorem Km.trans {g : Nat} {a b c : World} (h : Km g a b) (k : Km g b c) : Km g a c := ⟨h.b.trans k.b, h.o.trans k.o⟩
theorem Km.bel {g : Nat} {w w' : World} (h : Below w.heap.size w w') (hg : g ≤ w.heap.size) : Km g w w' := ⟨h.mono hg, fun k o hk _ _ => by
  rw [h.block k (Array.getElem?_eq_some_iff.1 hk).1]; exact hk⟩
theorem km_set {g : Nat} {a w : World} (h : Km g a w) (j : Nat) (x : Value) : Km g a (w.setCell ⟨g, j, none⟩ x) := ⟨h.b.setCell (p := ⟨g, j, none⟩) (Nat.le_refl g) x, h.o.setCell ⟨g, j, none⟩ rfl x⟩
theorem Blk.km {w w' : World} {q g : Nat} {T : TypeId} {vs : List Value} (h : Blk w q T vs) (hk : Km g w w') (hq : q ≠ g) (hT : T ≠ 32) : Blk w' q T vs :=
  ⟨hk.o q _ h.out (fun e => hq (Option.some.inj e)) (fun c fz e => hT (by cases e; rfl))⟩
def McPost (g : Nat) (v : Value) (m' : Mc) (w : World) (e : Ending) (w' : World) : Prop := e = .returned v ∧ MAt w' g m' ∧ Km g w w'
section
variable (w : World) (g : Nat) (m : Mc)
set_option maxHeartbeats 2000000 in
set_option maxRecDepth 100000 in
theorem end_any (st cd : Nat) (h : MAt w g m) (hw : m.words.length = 96) : Calls Tryz.prog 39 #[.pointer (some ⟨g, 0, none⟩), .int .i64 (st : Nat), .int .i64 (cd : Nat)] w (McPost g (.tuple #[]) (m.endM st cd) w) := by
  obtain ⟨c103, f103⟩ := h.cell (j := 103) (x := .bool m.over) (fun ov an => (mc_get ov an m hw).2.2)
  cases ho : m.over with
  | true =>
    have HV : Hid (m.endM st cd = m) := hide (by unfold Mc.endM; rw [ho]; rfl)
    rw [ho] at c103
    have H := hide h
    clear h ho
    go_enter Tryz.func39, Tryz.ntmps39
    go_wp2
    go_end0
    exact ⟨rfl, by rw [HV.out]; exact H.out, Km.refl _ _⟩
  | false =>
    have HV : Hid (m.endM st cd = { m with over := true, state := st, code := cd }) := hide (by unfold Mc.endM; rw [ho]; rfl)
    have h1 : MAt (w.setCell ⟨g, 103, none⟩ (.bool true)) g { m with over := true } := h.store 103 _ (fun ov an => (mc_set ov an m hw).2.2 true) rfl rfl
    have h2 : MAt ((w.setCell ⟨g, 103, none⟩ (.bool true)).setCell ⟨g, 1, none⟩ (.int .i64 (st : Nat))) g { m with over := true, state := st } := h1.store 1 _ (fun ov an => rfl) rfl rfl
    have h3 : MAt (((w.setCell ⟨g, 103, none⟩ (.bool true)).setCell ⟨g, 1, none⟩ (.int .i64 (st : Nat))).setCell ⟨g, 2, none⟩ (.int .i64 (cd : Nat))) g { m with over := true, state := st, code := cd } := h2.store 2 _ (fun ov an => rfl) rfl rfl
    obtain ⟨c1, f1⟩ := h1.cell (j := 1) (x := .int .i64 (m.state : Nat)) (fun ov an => rfl)
    obtain ⟨c2, f2⟩ := h2.cell (j := 2) (x := .int .i64 (m.code : Nat)) (fun ov an => rfl)
    have H3 := hide h3
    have HB : Hid (Km g w (((w.setCell ⟨g, 103, none⟩ (.bool true)).setCell ⟨g, 1, none⟩ (.int .i64 (st : Nat))).setCell ⟨g, 2, none⟩ (.int .i64 (cd : Nat)))) := hide (km_set (km_set (km_set (Km.refl g w) 103 _) 1 _) 2 _)
    rw [ho] at c103
    clear h h1 h2 h3 ho
    go_enter Tryz.func39, Tryz.ntmps39
    go_wp2
    go_end0
    exact ⟨rfl, by rw [HV.out]; exact H3.out, HB.out⟩
theorem endM_words (st cd : Nat) : (m.endM st cd).words = m.words ∧ (m.endM st cd).fuel = m.fuel ∧ (m.endM st cd).used = m.used ∧ (m.endM st cd).taken = m.taken ∧ (m.endM st cd).outs = m.outs ∧ (m.endM st cd).answers = m.answers ∧ (m.over = true → m.endM st cd = m) ∧ (m.endM st cd).over = true := by
  unfold Mc.endM
  cases ho : m.over with
  | true => exact ⟨rfl, rfl, rfl, rfl, rfl, rfl, fun _ => rfl, ho⟩
  | false => exact ⟨rfl, rfl, rfl, rfl, rfl, rfl, fun h => (by cases h), rfl⟩
set_option maxHeartbeats 2000000 in
set_option maxRecDepth 100000 in
theorem spend_any (d : Nat) (h : MAt w g m) (hk : Mok d m) : Calls Tryz.prog 59 #[.pointer (some ⟨g, 0, none⟩)] w (McPost g (.bool m.spend.1) m.spend.2 w) := by
  have hw := hk.wl
  have hu := hk.u
  obtain ⟨c102, f102⟩ := h.cell (j := 102) (x := .int .i64 (m.fuel : Nat)) (fun ov an => (mc_get ov an m hw).2.1)
  by_cases hf : m.fuel = 0
  · have hr : m.rest = m.endM 1 0 := by unfold Mc.rest; rw [if_pos hf]
    obtain ⟨_, _, _, _, _, _, _, e8⟩ := endM_words m 1 0
    have HV : Hid (m.spend = (false, m.endM 1 0)) := hide (by unfold Mc.spend; rw [hr, e8]; rfl)
    have HE := hide (end_any w g m 1 0 h hw)
    have HW : Hid ((m.endM 1 0).words.length = 96) := hide (by rw [(endM_words m 1 0).1]; exact hw)
    rw [hf] at c102
    clear h hk hw hu hf hr
    go_enter Tryz.func59, Tryz.ntmps59
    go_wp2_with fail
    refine HE.out.mono ?_
    rintro e w1 ⟨rfl, h1, h2⟩
    obtain ⟨c103, _⟩ := h1.cell (j := 103) (x := .bool true) (fun ov an => by rw [(mc_get ov an _ HW.out).2.2, e8])
    have H1 := hide h1
    have H2 := hide h2
    clear h1 h2 HE c102 f102 e8
    go_wp2
    go_ret
    rw [HV.out]
    exact ⟨rfl, H1.out, H2.out⟩
  · have hr : m.rest = m := by unfold Mc.rest; rw [if_neg hf]
    have hfi : ¬ (m.fuel : Int) = 0 := by omega
    have hfb : ((m.fuel : Int) == 0) = false := by simpa using hf
    obtain ⟨c103, f103⟩ := h.cell (j := 103) (x := .bool m.over) (fun ov an => (mc_get ov an m hw).2.2)
    cases ho : m.over with
    | true =>
      have HV : Hid (m.spend = (false, m)) := hide (by unfold Mc.spend; rw [hr, ho]; rfl)
      have H := hide h
      rw [ho] at c103
      clear h hk ho hr hf
      go_enter Tryz.func59, Tryz.ntmps59
      go_wp2
      go_ret
      rw [HV.out]
      exact ⟨rfl, H.out, Km.refl _ _⟩
    | false =>
      have HV : Hid (m.spend = (true, { m with fuel := m.fuel - 1, used := m.used + 1 })) := hide (by unfold Mc.spend; rw [hr, if_neg (by simp [ho])])
      have hca : (m.fuel : Int) - 1 = ((m.fuel - 1 : Nat) : Int) := by omega
      have hcb : (m.used : Int) + 1 = ((m.used + 1 : Nat) : Int) := by omega
      have h1 : MAt (w.setCell ⟨g, 102, none⟩ (.int .i64 ((m.fuel : Int) - 1))) g { m with fuel := m.fuel - 1 } := h.store 102 _ (fun ov an => by rw [hca]; exact (mc_set ov an m hw).2.1 _) rfl rfl
      have h2 : MAt ((w.setCell ⟨g, 102, none⟩ (.int .i64 ((m.fuel : Int) - 1))).setCell ⟨g, 4, none⟩ (.int .i64 ((m.used : Int) + 1))) g { m with fuel := m.fuel - 1, used := m.used + 1 } := h1.store 4 _ (fun ov an => by rw [hcb]; rfl) rfl rfl
      obtain ⟨c4, f4⟩ := h1.cell (j := 4) (x := .int .i64 (m.used : Nat)) (fun ov an => rfl)
      have hwa : IntKind.i64.wrap ((m.fuel : Int) - 1) = (m.fuel : Int) - 1 := by rw [IntKind.wrap_i64]; omega
      have hwb : IntKind.i64.wrap ((m.used : Int) + 1) = (m.used : Int) + 1 := by rw [IntKind.wrap_i64]; omega
      have H2 := hide h2
      have HB : Hid (Km g w ((w.setCell ⟨g, 102, none⟩ (.int .i64 ((m.fuel : Int) - 1))).setCell ⟨g, 4, none⟩ (.int .i64 ((m.used : Int) + 1)))) := hide (km_set (km_set (Km.refl g w) 102 _) 4 _)
      rw [ho] at c103
      clear h h1 h2 hk ho hr hf hca hcb
      go_enter Tryz.func59, Tryz.ntmps59
      go_wp2
      go_ret
      rw [HV.out]
      exact ⟨rfl, H2.out, HB.out⟩
end
end Go.Proofs.YtiafodeabdhcoaaGreatDoor

namespace Go.Proofs.YtiafodeabdhcoaaGreatDoor
open Go.RowKit
theorem row_kind {w : World} {base n k : Nat} {e : TypeId} {v : Value} {xs : List Value} (h : w.ownsRow base e k v n xs) : ∀ g, v.ownBlock = some g → ∃ c fz, w.heap[g]? = some (.cells c e fz) := fun g hg => by
  rcases h.2 with ⟨rfl, _⟩ | ⟨g', cap, cur, rfl, _, h3, _⟩
  · cases hg
  · cases hg; exact ⟨cur, (0, 0), h3⟩
theorem info_out : ∃ i, Tryz.prog.info? 32 = some i ∧ i.zero = some (.agg (outL (0, 0)).toArray) ∧ i.size = 2 ∧ i.bytes = 16 := info_parts (by kernel_rfl)
theorem outL_one (o : Nat × Nat) : ∀ u ∈ outL o, u.oneCell' = true := by
  intro u hu
  simp [outL] at hu
  rcases hu with rfl | rfl <;> rfl
section
variable (w : World) (g : Nat) (m : Mc)
set_option maxHeartbeats 4000000 in
set_option maxRecDepth 100000 in
theorem mtell_any (call v : Nat) (h : MAt w g m) (hw : m.words.length = 96) (hl : m.outs.length ≤ 1000000) : Calls Tryz.prog 38 #[.pointer (some ⟨g, 0, none⟩), .int .i64 (call : Nat), .int .u32 (v : Nat)] w (McPost g (.tuple #[]) (m.tell call v) w) := by
  obtain ⟨c103, _⟩ := h.cell (j := 103) (x := .bool m.over) (fun ov an => (mc_get ov an m hw).2.2)
  cases ho : m.over with
  | true =>
    have HV : Hid (m.tell call v = m) := hide (by unfold Mc.tell; rw [if_pos ho])
    have H := hide h
    rw [ho] at c103
    clear h ho
    go_enter Tryz.func38, Tryz.ntmps38
    go_wp2
    go_end0
    exact ⟨rfl, by rw [HV.out]; exact H.out, Km.refl _ _⟩
  | false =>
    have HV : Hid (m.tell call v = { m with outs := m.outs ++ [(call, v)] }) := hide (by unfold Mc.tell; rw [if_neg (by simp [ho])])
    obtain ⟨i9, hi, hz, hsz9, hb9⟩ := info_out
    rw [ho] at c103
    have hgl := h.lt
    obtain ⟨ov, an, hb, hown, han⟩ := h.out
    have c0 : w.cell? ⟨g, 0, none⟩ = some ov := hb.get rfl
    have HO := hide hown
    have HA := hide han
    have HB := hide hb
    obtain ⟨n, hn⟩ : ∃ n, m.outs.length = n := ⟨_, rfl⟩
    rw [hn] at hl
    have HN := hide hn
    have HO2 : Hid (w.ownsRow (g + 1) 32 2 ov n (m.outs.flatMap outL)) := hide (by rw [← hn]; exact hown)
    obtain ⟨a0, k0, rfl⟩ := own_shape HO2.out
    clear h ho hown han hb hn HO
    go_enter Tryz.func38, Tryz.ntmps38
    go_wp2_with (at_builtin; refine wpList_append_own _ rfl _ _ 24 rfl (g + 1) 32 i9 (.agg (outL (0, 0)).toArray) 2 16 Tryz.underlying24 hi hz hsz9 hb9 rfl (by decide) _ _ _ rfl (HO2.out.alloc _) ⟨_, 0, none⟩ 1 1 (outL (call, v)) rfl rfl (cells_new _ _ _) (outL_one _) (by unfold maxLen; omega) (by omega) (by simp; omega) ?_; intro v4 w4 ho4 hg4 _; obtain ⟨a4, c4, rfl⟩ := own_shape ho4; have hb4 : Blk w4 g 68 (mcL (.slice a0 n k0) an m) := HB.out.keep ((hg4.block g (by simp; omega) (fun e => by have := (HO2.out.lt g e.symm).1; omega)).trans (Lib.alloc_old w _ g hgl)); have hbl : Km g w w4 := ⟨((Below.refl g w).alloc (Nat.le_of_lt hgl) _).grown hg4 (by simp; omega) (fun j hj => by have := (HO2.out.lt j hj).1; omega), ((Lib.OthersKept.refl _ _ w).alloc _).grown hg4 (row_kind (HO2.out.alloc _))⟩; have d0 := hb4.get (j := 0) rfl; have f0 := hb4.frz 0; have H4 := hide hb4; have HL := hide hbl; have HO4 := hide ho4; clear hb4 hbl hg4 ho4 c0 HO2)
    go_end0
    rw [HV.out]
    refine ⟨rfl, ⟨.slice a4 (n + 1) c4, an, H4.out.set 0 _, ?_, HA.out.below (km_set HL.out 0 _).b⟩, km_set HL.out 0 _⟩
    have e1 : (m.outs ++ [(call, v)]).length = n + 1 := by rw [List.length_append, HN.out]; rfl
    have e2 : (m.outs ++ [(call, v)]).flatMap outL = m.outs.flatMap outL ++ outL (call, v) := by simp
    show World.ownsRow _ _ _ _ _ (m.outs ++ [(call, v)]).length ((m.outs ++ [(call, v)]).flatMap outL)
    rw [e1, e2]
    exact or_keep HO4.out (fun b hb' _ => heap_setCell_other _ _ _ _ (by show b ≠ g; omega))
end
end Go.Proofs.YtiafodeabdhcoaaGreatDoor

namespace Go.Proofs.YtiafodeabdhcoaaGreatDoor
open Go.RowKit
section
variable {d : Nat} {m : Mc}
theorem Mok.less {d' : Nat} (h : Mok d m) (hd : d' ≤ d) : Mok d' m := ⟨h.wl, h.wb, h.ab, h.u, h.t, by have := h.o; omega⟩
theorem Mok.outs (h : Mok d m) : m.outs.length ≤ 1000000 := by have := h.o; omega
theorem mok_end (h : Mok d m) (st cd : Nat) : Mok d (m.endM st cd) := by
  unfold Mc.endM
  cases ho : m.over with
  | true => exact h
  | false =>
    refine ⟨h.wl, h.wb, h.ab, h.u, h.t, ?_⟩
    have := h.o
    rw [ho] at this
    show m.outs.length + m.fuel + 0 + d ≤ _
    simp at this
    omega
theorem mok_rest (h : Mok d m) : Mok d m.rest := by unfold Mc.rest; split; exact mok_end h 1 0; exact h
theorem rest_fuel : m.rest.over = false → 0 < m.rest.fuel ∧ m.rest = m := by
  unfold Mc.rest
  split
  · intro h
    rw [(endM_words m 1 0).2.2.2.2.2.2.2] at h
    cases h
  · intro _
    exact ⟨by omega, rfl⟩
theorem mok_spend (h : Mok d m) : Mok d m.spend.2 ∧ (m.spend.1 = true → Mok (d + 1) m.spend.2) := by
  have hr := mok_rest h
  unfold Mc.spend
  cases ho : m.rest.over with
  | true => exact ⟨by rw [if_pos rfl]; exact hr, fun h => by rw [if_pos rfl] at h; cases h⟩
  | false =>
    obtain ⟨hf, _⟩ := rest_fuel ho
    have h2 : Mok (d + 1) { m.rest with fuel := m.rest.fuel - 1, used := m.rest.used + 1 } := by
      refine ⟨hr.wl, hr.wb, hr.ab, ?_, ?_, ?_⟩
      · have := hr.u; show m.rest.used + 1 + (m.rest.fuel - 1) ≤ _; omega
      · have := hr.t; show m.rest.taken + (m.rest.fuel - 1) ≤ _; omega
      · have := hr.o; show m.rest.outs.length + (m.rest.fuel - 1) + (if m.rest.over then 0 else 1) + (d + 1) ≤ _; omega
    rw [if_neg (by simp)]
    exact ⟨h2.less (Nat.le_succ _), fun _ => h2⟩
theorem mok_tell (h : Mok (d + 1) m) (c v : Nat) : Mok d (m.tell c v) := by
  unfold Mc.tell
  split
  · exact h.less (Nat.le_succ _)
  · refine ⟨h.wl, h.wb, h.ab, h.u, h.t, ?_⟩
    have := h.o
    show (m.outs ++ [(c, v)]).length + m.fuel + (if m.over then 0 else 1) + d ≤ _
    rw [List.length_append]
    show m.outs.length + 1 + m.fuel + _ + d ≤ _
    omega
theorem mok_stop (h : Mok d m) (c : Nat) : Mok d (m.stop c) := by
  unfold Mc.stop Mc.tell
  cases ho : m.over with
  | true => rw [if_pos rfl]; exact mok_end h 3 c
  | false =>
    rw [if_neg (by simp)]
    unfold Mc.endM
    rw [if_neg (by simp)]
    refine ⟨h.wl, h.wb, h.ab, h.u, h.t, ?_⟩
    have := h.o
    rw [ho] at this
    show (m.outs ++ [(1, c)]).length + m.fuel + 0 + d ≤ _
    rw [List.length_append]
    simp at this ⊢
    omega
theorem mok_next (h : Mok d m) (ht : m.taken + m.fuel + 1 ≤ 1000000) : Mok d m.next.2 ∧ m.next.1 ≤ 4294967295 := by
  unfold Mc.next
  cases ha : m.answers with
  | nil => exact ⟨h, Nat.zero_le _⟩
  | cons a r =>
    have hab := h.ab
    rw [ha] at hab
    exact ⟨⟨h.wl, h.wb, fun x hx => hab x (List.mem_cons_of_mem _ hx), h.u, by show m.taken + 1 + m.fuel ≤ _; omega, h.o⟩, hab a List.mem_cons_self⟩
theorem spend_taken (h : Mok d m) (hs : m.spend.1 = true) : m.spend.2.taken + m.spend.2.fuel + 1 ≤ 1000000 := by
  have hr := mok_rest h
  unfold Mc.spend at hs ⊢
  cases ho : m.rest.over with
  | true => rw [ho] at hs; cases hs
  | false =>
    obtain ⟨hf, _⟩ := rest_fuel ho
    have := hr.t
    rw [if_neg (by simp)]
    show m.rest.taken + (m.rest.fuel - 1) + 1 ≤ _
    omega
theorem mok_ask (h : Mok d m) : Mok d m.ask.2 ∧ m.ask.1 ≤ 4294967295 := by
  obtain ⟨h1, h2⟩ := mok_spend h
  unfold Mc.ask
  by_cases hs : m.spend.1 = false
  · rw [if_pos hs]; exact ⟨h1, Nat.zero_le _⟩
  · rw [if_neg hs]
    have hs' : m.spend.1 = true := by simpa using hs
    obtain ⟨h3, h4⟩ := mok_next (h2 hs') (spend_taken h hs')
    exact ⟨mok_tell h3 _ _, h4⟩
end
theorem add_zero0 (b : Addr) : b.add 0 = b := by unfold Addr.add; split <;> simp_all
section
variable (w : World) (g : Nat) (m : Mc) (d : Nat)
set_option maxHeartbeats 2000000 in
set_option maxRecDepth 100000 in
theorem mstop_any (c : Nat) (hc : c ≤ 4294967295) (h : MAt w g m) (hk : Mok d m) : Calls Tryz.prog 27 #[.pointer (some ⟨g, 0, none⟩), .int .u32 (c : Nat)] w (McPost g (.tuple #[]) (m.stop c) w) := by
  have HT := hide (mtell_any w g m 1 c h hk.wl hk.outs)
  have HW : Hid ((m.tell 1 c).words.length = 96) := hide (by unfold Mc.tell; split <;> exact hk.wl)
  have hwr : IntKind.i64.wrap (c : Int) = (c : Int) := by rw [IntKind.wrap_i64]; omega
  clear h hk
  go_enter Tryz.func27, Tryz.ntmps27
  go_wp2_with fail
  refine HT.out.mono ?_
  rintro e w1 ⟨rfl, h1, h2⟩
  have HE := hide (end_any w1 g (m.tell 1 c) 3 c h1 HW.out)
  have H2 := hide h2
  clear h1 h2 HT
  go_wp2_with fail
  refine HE.out.mono ?_
  rintro e w2 ⟨rfl, h1, h2⟩
  have H1 := hide h1
  have H3 := hide (H2.out.trans h2)
  clear h1 h2 HE
  go_wp2
  go_end0
  exact ⟨rfl, H1.out, H3.out⟩
set_option maxHeartbeats 4000000 in
set_option maxRecDepth 100000 in
theorem mask_any (h : MAt w g m) (hk : Mok d m) : Calls Tryz.prog 95 #[.pointer (some ⟨g, 0, none⟩)] w (McPost g (.int .u32 (m.ask.1 : Nat)) m.ask.2 w) := by
  have HS := hide (spend_any w g m d h hk)
  obtain ⟨k1, k2⟩ := mok_spend hk
  by_cases hs : m.spend.1 = false
  · have HV : Hid (m.ask = (0, m.spend.2)) := hide (by unfold Mc.ask; rw [if_pos hs])
    rw [hs] at HS
    clear h hk k1 k2 hs
    go_enter Tryz.func95, Tryz.ntmps95
    go_wp2_with fail
    refine HS.out.mono ?_
    rintro e w1 ⟨rfl, h1, h2⟩
    have H1 := hide h1
    have H2 := hide h2
    clear h1 h2 HS
    go_wp2
    go_ret
    rw [HV.out]
    exact ⟨rfl, H1.out, H2.out⟩
  · have hs' : m.spend.1 = true := by simpa using hs
    have hk2 := k2 hs'
    have htk := spend_taken hk hs'
    have HV : Hid (m.ask = (m.spend.2.next.1, m.spend.2.next.2.tell 24 m.spend.2.next.1)) := hide (by unfold Mc.ask; rw [if_neg hs])
    rw [hs'] at HS
    obtain ⟨mm, hmm⟩ : ∃ x, m.spend.2 = x := ⟨_, rfl⟩
    rw [hmm] at HS HV hk2 htk
    have hwl := hk2.wl
    have HO := hide hk2.outs
    have hut := hk2.t
    clear h hk k1 k2 hs hs' hmm
    go_enter Tryz.func95, Tryz.ntmps95
    go_wp2_with fail
    refine HS.out.mono ?_
    rintro e w1 ⟨rfl, h1, h2⟩
    have H2 := hide h2
    clear h2 HS
    cases ha : mm.answers with
    | nil =>
      have HV2 : Hid (mm.next = (0, mm)) := hide (by unfold Mc.next; rw [ha])
      have HT := hide (mtell_any w1 g mm 24 0 h1 hwl HO.out)
      obtain ⟨ov, an, hb, hown, han⟩ := h1.out
      rw [ha] at han
      obtain ⟨a0, cc, rfl, hcc, _⟩ := han
      have c101 : w1.cell? ⟨g, 101, none⟩ = some (.slice a0 0 cc) := hb.get (mc_get _ _ mm hwl).1
      clear h1 hb hown hk2 ha
      go_wp2_with fail
      refine HT.out.mono ?_
      rintro e w2 ⟨rfl, h1, h2⟩
      have H1 := hide h1
      have H3 := hide (H2.out.trans h2)
      clear h1 h2 HT
      go_wp2
      go_ret
      rw [HV.out, HV2.out]
      exact ⟨rfl, H1.out, H3.out⟩
    | cons a r =>
      have HV2 : Hid (mm.next = (a, { mm with answers := r, taken := mm.taken + 1 })) := hide (by unfold Mc.next; rw [ha])
      obtain ⟨ov, an, hb, hown, han⟩ := h1.out
      rw [ha] at han
      obtain ⟨a0, cc, rfl, hcc, hcl⟩ := han
      obtain ⟨b, rfl, hbg, hb0⟩ := hcl 0 (by simp)
      have c101 : w1.cell? ⟨g, 101, none⟩ = some (.slice (some b) (r.length + 1) cc) := hb.get (mc_get _ _ mm hwl).1
      have f101 := hb.frz 101
      have hcell : w1.cell? b = some (.int .u32 (a : Nat)) := by rw [add_zero0] at hb0; exact hb0
      have hrl : r.length + 1 ≤ cc := hcc
      have hab : Hid (AnAt w1 g (if cc = 1 then .slice (some b) r.length 0 else .slice (some (b.add 1)) r.length (cc - 1)) r) := hide (by
        by_cases h1 : cc = 1
        · rw [if_pos h1]
          have hr0 : r = [] := List.length_eq_zero_iff.1 (by omega)
          subst hr0
          exact ⟨some b, 0, rfl, Nat.le_refl _, fun i hi => absurd hi (Nat.not_lt_zero _)⟩
        · rw [if_neg h1]
          refine ⟨some (b.add 1), cc - 1, rfl, by omega, fun i hi => ⟨b.add 1, rfl, by rw [add_blk]; exact hbg, ?_⟩⟩
          obtain ⟨b2, k1, k2, k3⟩ := hcl (i + 1) (by simpa using hi)
          cases k1
          rw [Addr.add_add, Nat.add_comm 1 i]
          exact k3)
      have hca : (mm.taken : Int) + 1 = ((mm.taken + 1 : Nat) : Int) := by omega
      have hwa : IntKind.i64.wrap ((mm.taken : Int) + 1) = (mm.taken : Int) + 1 := by rw [IntKind.wrap_i64]; omega
      obtain ⟨an', han'⟩ : ∃ x, (if cc = 1 then Value.slice (some b) r.length 0 else .slice (some (b.add 1)) r.length (cc - 1)) = x := ⟨_, rfl⟩
      rw [han'] at hab
      have hb2 : Blk (w1.setCell ⟨g, 101, none⟩ an') g 68 (mcL ov an' mm) := by
        have := hb.set 101 an'
        rw [(mc_set ov _ mm hwl).1] at this
        exact this
      have d3 : w1.cell? ⟨g, 3, none⟩ = some (.int .i64 (mm.taken : Nat)) := hb.get (j := 3) rfl
      have g3 := hb.frz 3
      have HM : Hid (MAt ((w1.setCell ⟨g, 101, none⟩ an').setCell ⟨g, 3, none⟩ (.int .i64 ((mm.taken : Int) + 1))) g { mm with answers := r, taken := mm.taken + 1 }) := hide ⟨ov, an', by
          have := hb2.set 3 (.int .i64 ((mm.taken : Int) + 1))
          rw [hca] at this ⊢
          exact this,
        or_keep (or_keep hown (fun b hb' _ => heap_setCell_other _ _ _ _ (by show b ≠ g; omega))) (fun b hb' _ => heap_setCell_other _ _ _ _ (by show b ≠ g; omega)),
        hab.out.below (km_set (km_set (Km.refl g w1) 101 _) 3 _).b⟩
      have HB := hide (H2.out.trans (km_set (km_set (Km.refl g w1) 101 an') 3 (.int .i64 ((mm.taken : Int) + 1))))
      have HT := hide (mtell_any ((w1.setCell ⟨g, 101, none⟩ an').setCell ⟨g, 3, none⟩ (.int .i64 ((mm.taken : Int) + 1))) g { mm with answers := r, taken := mm.taken + 1 } 24 a HM.out hwl HO.out)
      clear hcl hcc hk2 h1 hb hown hab hca hb2 ha HM htk hb0 hbg
      by_cases hc1 : cc = 1
      · rw [if_pos hc1] at han'
        have hr0 : r = [] := List.length_eq_zero_iff.1 (by omega)
        subst hr0
        subst hc1
        subst han'
        simp only [List.length_nil] at HT HB c101
        go_upto_region 6 with fail
        go_wp2_with fail
        refine HT.out.mono ?_
        rintro e w2 ⟨rfl, h1, h2⟩
        have H1 := hide h1
        have H3 := hide (HB.out.trans h2)
        clear h1 h2 HT
        go_wp2
        go_ret
        rw [HV.out, HV2.out]
        exact ⟨rfl, H1.out, H3.out⟩
      · rw [if_neg hc1] at han'
        subst han'
        go_upto_region 6 with fail
        go_wp2_with fail
        refine HT.out.mono ?_
        rintro e w2 ⟨rfl, h1, h2⟩
        have H1 := hide h1
        have H3 := hide (HB.out.trans h2)
        clear h1 h2 HT
        go_wp2
        go_ret
        rw [HV.out, HV2.out]
        exact ⟨rfl, H1.out, H3.out⟩
end
end Go.Proofs.YtiafodeabdhcoaaGreatDoor

namespace Go.Proofs.YtiafodeabdhcoaaGreatDoor
open Go.RowKit
theorem not_u32 (v : Nat) (hv : v ≤ 4294967295) : 4294967295 ^^^ v = 4294967295 - v := by
  apply Nat.eq_of_testBit_eq
  intro i
  have h1 : 4294967295 - v = 2 ^ 32 - (v + 1) := by omega
  rw [h1, Nat.testBit_two_pow_sub_succ (by omega), Nat.testBit_xor, show (4294967295 : Nat) = 2 ^ 32 - 1 by decide, Nat.testBit_two_pow_sub_one]
  by_cases hi : i < 32
  · simp [hi]
  · have hlt : v < 2 ^ i := Nat.lt_of_lt_of_le (show v < 2 ^ 32 by omega) (Nat.pow_le_pow_right (by decide) (by omega))
    simp [hi, Nat.testBit_lt_two_pow hlt]
theorem mshl_bits (x y : Nat) : (x : Int) * 2 ^ min y 32 % 4294967296 = ((if y < 32 then x * 2 ^ y % 4294967296 else 0 : Nat) : Int) := by
  by_cases h : y < 32
  · rw [if_pos h, Nat.min_eq_left (by omega)]; simp
  · rw [if_neg h, Nat.min_eq_right (by omega)]; omega
theorem mshr_bits (x y : Nat) (hx : x < 4294967296) : (x : Int) / 2 ^ min y 32 = ((if y < 32 then x / 2 ^ y else 0 : Nat) : Int) := by
  by_cases h : y < 32
  · rw [if_pos h, Nat.min_eq_left (by omega)]; simp
  · rw [if_neg h, Nat.min_eq_right (by omega)]; omega
section
variable (w : World)
set_option maxRecDepth 100000 in
theorem truth_any (b : Bool) : Calls Tryz.prog 125 #[.bool b] w fun e w' => e = .returned (.int .u32 (truT b : Nat)) ∧ w' = w := by
  cases b with
  | true =>
    go_enter Tryz.func125, Tryz.ntmps125
    go_wp2
    go_ret
    exact ⟨rfl, rfl⟩
  | false =>
    go_enter Tryz.func125, Tryz.ntmps125
    go_wp2
    go_ret
    exact ⟨rfl, rfl⟩
theorem truth_is (b : Bool) (c : Bool) (h : b = c) : Calls Tryz.prog 125 #[.bool b] w fun e w' => e = .returned (.int .u32 (truT c : Nat)) ∧ w' = w := h ▸ truth_any w b
set_option maxRecDepth 100000 in
theorem divides_any (s : Tx) : Calls Tryz.prog 126 #[.string ⟨s.toArray⟩] w fun e w' => e = .returned (.bool (divT s)) ∧ w' = w := by
  have HV : Hid (divT s = (s == [47] || s == [37])) := hide rfl
  by_cases h1 : s = [47]
  · subst h1
    go_enter Tryz.func126, Tryz.ntmps126
    go_wp2
    go_ret
    exact ⟨rfl, rfl⟩
  · have b1 : (s == [47]) = false := by simpa using h1
    clear h1
    go_enter Tryz.func126, Tryz.ntmps126
    go_wp2
    go_ret
    rw [HV.out, b1]
    exact ⟨rfl, rfl⟩
set_option maxRecDepth 100000 in
set_option maxHeartbeats 2000000 in
theorem sign_any (s : Tx) (v : Nat) (hv : v ≤ 4294967295) : Calls Tryz.prog 97 #[.string ⟨s.toArray⟩, .int .u32 (v : Nat)] w fun e w' => e = .returned (.int .u32 (sgV s v : Nat)) ∧ w' = w := by
  by_cases h1 : s = [45]
  · subst h1
    have HV : Hid (((sgV [45] v : Nat) : Int) = -(v : Int) % 4294967296) := hide (by show (((4294967296 - v) % 4294967296 : Nat) : Int) = _; omega)
    go_enter Tryz.func97, Tryz.ntmps97
    go_wp2
    go_ret
    rw [HV.out]
    exact ⟨rfl, rfl⟩
  · have b1 : (s == [45]) = false := by simpa using h1
    by_cases h2 : s = [126]
    · subst h2
      clear h1 b1
      have HV : Hid (((sgV [126] v : Nat) : Int) = bits BinOp.xor IntKind.u32 IntKind.u32.max (v : Int)) := hide (by
        show ((4294967295 - v : Nat) : Int) = bits BinOp.xor IntKind.u32 ((4294967295 : Nat) : Int) (v : Int)
        rw [u32_xor_nat _ _ (by decide) (by omega), not_u32 v hv])
      go_enter Tryz.func97, Tryz.ntmps97
      go_wp2
      go_ret
      rw [HV.out]
      exact ⟨rfl, rfl⟩
    · have b2 : (s == [126]) = false := by simpa using h2
      have HV : Hid (sgV s v = truT (v == 0)) := hide (by unfold sgV; rw [if_neg h1, if_neg h2])
      clear h1 h2
      go_enter Tryz.func97, Tryz.ntmps97
      go_wp2_with fail
      refine (truth_is w _ (v == 0) (by rw [Bool.eq_iff_iff]; simp)).mono ?_
      rintro e w1 ⟨rfl, rfl⟩
      go_wp2
      go_ret
      rw [HV.out]
      exact ⟨rfl, rfl⟩
set_option maxRecDepth 100000 in
set_option maxHeartbeats 2000000 in
theorem ap_oror (l r : Nat) : Calls Tryz.prog 127 #[.string ⟨([124, 124] : Tx).toArray⟩, .int .u32 (l : Nat), .int .u32 (r : Nat)] w fun e w' => e = .returned (.int .u32 (apV [124, 124] l r : Nat)) ∧ w' = w := by
  have HV : Hid (apV [124, 124] l r = truT (r != 0)) := hide rfl
  go_enter Tryz.func127, Tryz.ntmps127
  go_wp2_with fail
  refine (truth_is w _ (r != 0) ?hb).mono ?_
  case hb => first | rfl | (rw [Bool.eq_iff_iff]; simp <;> omega) | (rw [Bool.eq_iff_iff]; simp)
  rintro e w1 ⟨rfl, rfl⟩
  go_wp2
  go_ret
  rw [HV.out]
  exact ⟨rfl, rfl⟩
set_option maxRecDepth 100000 in
set_option maxHeartbeats 2000000 in
theorem ap_andand (l r : Nat) : Calls Tryz.prog 127 #[.string ⟨([38, 38] : Tx).toArray⟩, .int .u32 (l : Nat), .int .u32 (r : Nat)] w fun e w' => e = .returned (.int .u32 (apV [38, 38] l r : Nat)) ∧ w' = w := by
  have HV : Hid (apV [38, 38] l r = truT (r != 0)) := hide rfl
  go_enter Tryz.func127, Tryz.ntmps127
  go_wp2_with fail
  refine (truth_is w _ (r != 0) ?hb).mono ?_
  case hb => first | rfl | (rw [Bool.eq_iff_iff]; simp <;> omega) | (rw [Bool.eq_iff_iff]; simp)
  rintro e w1 ⟨rfl, rfl⟩
  go_wp2
  go_ret
  rw [HV.out]
  exact ⟨rfl, rfl⟩
set_option maxRecDepth 100000 in
set_option maxHeartbeats 2000000 in
theorem ap_or (l r : Nat) (hl : l ≤ 4294967295) (hr : r ≤ 4294967295) : Calls Tryz.prog 127 #[.string ⟨([124] : Tx).toArray⟩, .int .u32 (l : Nat), .int .u32 (r : Nat)] w fun e w' => e = .returned (.int .u32 (apV [124] l r : Nat)) ∧ w' = w := by
  have HV : Hid (((apV [124] l r : Nat) : Int) = bits BinOp.or IntKind.u32 (l : Int) (r : Int)) := hide (by
    show ((l ||| r : Nat) : Int) = _
    rw [u32_or_nat _ _ (by omega) (by omega)])
  go_enter Tryz.func127, Tryz.ntmps127
  go_wp2
  go_ret
  rw [HV.out]
  exact ⟨rfl, rfl⟩
set_option maxRecDepth 100000 in
set_option maxHeartbeats 2000000 in
theorem ap_xor (l r : Nat) (hl : l ≤ 4294967295) (hr : r ≤ 4294967295) : Calls Tryz.prog 127 #[.string ⟨([94] : Tx).toArray⟩, .int .u32 (l : Nat), .int .u32 (r : Nat)] w fun e w' => e = .returned (.int .u32 (apV [94] l r : Nat)) ∧ w' = w := by
  have HV : Hid (((apV [94] l r : Nat) : Int) = bits BinOp.xor IntKind.u32 (l : Int) (r : Int)) := hide (by
    show ((l ^^^ r : Nat) : Int) = _
    rw [u32_xor_nat _ _ (by omega) (by omega)])
  go_enter Tryz.func127, Tryz.ntmps127
  go_wp2
  go_ret
  rw [HV.out]
  exact ⟨rfl, rfl⟩
set_option maxRecDepth 100000 in
set_option maxHeartbeats 2000000 in
theorem ap_and (l r : Nat) (hl : l ≤ 4294967295) (hr : r ≤ 4294967295) : Calls Tryz.prog 127 #[.string ⟨([38] : Tx).toArray⟩, .int .u32 (l : Nat), .int .u32 (r : Nat)] w fun e w' => e = .returned (.int .u32 (apV [38] l r : Nat)) ∧ w' = w := by
  have HV : Hid (((apV [38] l r : Nat) : Int) = bits BinOp.and IntKind.u32 (l : Int) (r : Int)) := hide (by
    show ((l &&& r : Nat) : Int) = _
    rw [u32_and_nat _ _ (by omega) (by omega)])
  go_enter Tryz.func127, Tryz.ntmps127
  go_wp2
  go_ret
  rw [HV.out]
  exact ⟨rfl, rfl⟩
set_option maxRecDepth 100000 in
set_option maxHeartbeats 2000000 in
theorem ap_eq (l r : Nat) : Calls Tryz.prog 127 #[.string ⟨([61, 61] : Tx).toArray⟩, .int .u32 (l : Nat), .int .u32 (r : Nat)] w fun e w' => e = .returned (.int .u32 (apV [61, 61] l r : Nat)) ∧ w' = w := by
  have HV : Hid (apV [61, 61] l r = truT (l == r)) := hide rfl
  go_enter Tryz.func127, Tryz.ntmps127
  go_wp2_with fail
  refine (truth_is w _ (l == r) ?hb).mono ?_
  case hb => first | rfl | (rw [Bool.eq_iff_iff]; simp <;> omega) | (rw [Bool.eq_iff_iff]; simp)
  rintro e w1 ⟨rfl, rfl⟩
  go_wp2
  go_ret
  rw [HV.out]
  exact ⟨rfl, rfl⟩
set_option maxRecDepth 100000 in
set_option maxHeartbeats 2000000 in
theorem ap_ne (l r : Nat) : Calls Tryz.prog 127 #[.string ⟨([33, 61] : Tx).toArray⟩, .int .u32 (l : Nat), .int .u32 (r : Nat)] w fun e w' => e = .returned (.int .u32 (apV [33, 61] l r : Nat)) ∧ w' = w := by
  have HV : Hid (apV [33, 61] l r = truT (l != r)) := hide rfl
  go_enter Tryz.func127, Tryz.ntmps127
  go_wp2_with fail
  refine (truth_is w _ (l != r) ?hb).mono ?_
  case hb => first | rfl | (rw [Bool.eq_iff_iff]; simp <;> omega) | (rw [Bool.eq_iff_iff]; simp)
  rintro e w1 ⟨rfl, rfl⟩
  go_wp2
  go_ret
  rw [HV.out]
  exact ⟨rfl, rfl⟩
set_option maxRecDepth 100000 in
set_option maxHeartbeats 2000000 in
theorem ap_lt (l r : Nat) : Calls Tryz.prog 127 #[.string ⟨([60] : Tx).toArray⟩, .int .u32 (l : Nat), .int .u32 (r : Nat)] w fun e w' => e = .returned (.int .u32 (apV [60] l r : Nat)) ∧ w' = w := by
  have HV : Hid (apV [60] l r = truT (decide (l < r))) := hide rfl
  go_enter Tryz.func127, Tryz.ntmps127
  go_wp2_with fail
  refine (truth_is w _ (decide (l < r)) ?hb).mono ?_
  case hb => first | rfl | (rw [Bool.eq_iff_iff]; simp <;> omega) | (rw [Bool.eq_iff_iff]; simp)
  rintro e w1 ⟨rfl, rfl⟩
  go_wp2
  go_ret
  rw [HV.out]
  exact ⟨rfl, rfl⟩
set_option maxRecDepth 100000 in
set_option maxHeartbeats 2000000 in
theorem ap_le (l r : Nat) : Calls Tryz.prog 127 #[.string ⟨([60, 61] : Tx).toArray⟩, .int .u32 (l : Nat), .int .u32 (r : Nat)] w fun e w' => e = .returned (.int .u32 (apV [60, 61] l r : Nat)) ∧ w' = w := by
  have HV : Hid (apV [60, 61] l r = truT (decide (l ≤ r))) := hide rfl
  go_enter Tryz.func127, Tryz.ntmps127
  go_wp2_with fail
  refine (truth_is w _ (decide (l ≤ r)) ?hb).mono ?_
  case hb => first | rfl | (rw [Bool.eq_iff_iff]; simp <;> omega) | (rw [Bool.eq_iff_iff]; simp)
  rintro e w1 ⟨rfl, rfl⟩
  go_wp2
  go_ret
  rw [HV.out]
  exact ⟨rfl, rfl⟩
set_option maxRecDepth 100000 in
set_option maxHeartbeats 2000000 in
theorem ap_gt (l r : Nat) : Calls Tryz.prog 127 #[.string ⟨([62] : Tx).toArray⟩, .int .u32 (l : Nat), .int .u32 (r : Nat)] w fun e w' => e = .returned (.int .u32 (apV [62] l r : Nat)) ∧ w' = w := by
  have HV : Hid (apV [62] l r = truT (decide (r < l))) := hide rfl
  go_enter Tryz.func127, Tryz.ntmps127
  go_wp2_with fail
  refine (truth_is w _ (decide (r < l)) ?hb).mono ?_
  case hb => first | rfl | (rw [Bool.eq_iff_iff]; simp <;> omega) | (rw [Bool.eq_iff_iff]; simp)
  rintro e w1 ⟨rfl, rfl⟩
  go_wp2
  go_ret
  rw [HV.out]
  exact ⟨rfl, rfl⟩
set_option maxRecDepth 100000 in
set_option maxHeartbeats 2000000 in
theorem ap_ge (l r : Nat) : Calls Tryz.prog 127 #[.string ⟨([62, 61] : Tx).toArray⟩, .int .u32 (l : Nat), .int .u32 (r : Nat)] w fun e w' => e = .returned (.int .u32 (apV [62, 61] l r : Nat)) ∧ w' = w := by
  have HV : Hid (apV [62, 61] l r = truT (decide (r ≤ l))) := hide rfl
  go_enter Tryz.func127, Tryz.ntmps127
  go_wp2_with fail
  refine (truth_is w _ (decide (r ≤ l)) ?hb).mono ?_
  case hb => first | rfl | (rw [Bool.eq_iff_iff]; simp <;> omega) | (rw [Bool.eq_iff_iff]; simp)
  rintro e w1 ⟨rfl, rfl⟩
  go_wp2
  go_ret
  rw [HV.out]
  exact ⟨rfl, rfl⟩
set_option maxRecDepth 100000 in
set_option maxHeartbeats 2000000 in
theorem ap_shl (l r : Nat) : Calls Tryz.prog 127 #[.string ⟨([60, 60] : Tx).toArray⟩, .int .u32 (l : Nat), .int .u32 (r : Nat)] w fun e w' => e = .returned (.int .u32 (apV [60, 60] l r : Nat)) ∧ w' = w := by
  have HV : Hid (((apV [60, 60] l r : Nat) : Int) = (l : Int) * 2 ^ min r 32 % 4294967296) := hide (by
    show ((if r < 32 then (l * 2 ^ r) % 4294967296 else 0 : Nat) : Int) = _
    rw [mshl_bits])
  go_enter Tryz.func127, Tryz.ntmps127
  go_wp2
  go_ret
  rw [HV.out]
  exact ⟨rfl, rfl⟩
set_option maxRecDepth 100000 in
set_option maxHeartbeats 2000000 in
theorem ap_shr (l r : Nat) (hl : l ≤ 4294967295) : Calls Tryz.prog 127 #[.string ⟨([62, 62] : Tx).toArray⟩, .int .u32 (l : Nat), .int .u32 (r : Nat)] w fun e w' => e = .returned (.int .u32 (apV [62, 62] l r : Nat)) ∧ w' = w := by
  have HV : Hid (((apV [62, 62] l r : Nat) : Int) = (l : Int) / 2 ^ min r 32) := hide (by
    show ((if r < 32 then l / 2 ^ r else 0 : Nat) : Int) = _
    rw [mshr_bits _ _ (by omega)])
  go_enter Tryz.func127, Tryz.ntmps127
  go_wp2
  go_ret
  rw [HV.out]
  exact ⟨rfl, rfl⟩
set_option maxRecDepth 100000 in
set_option maxHeartbeats 2000000 in
theorem ap_add (l r : Nat) : Calls Tryz.prog 127 #[.string ⟨([43] : Tx).toArray⟩, .int .u32 (l : Nat), .int .u32 (r : Nat)] w fun e w' => e = .returned (.int .u32 (apV [43] l r : Nat)) ∧ w' = w := by
  have HV : Hid (((apV [43] l r : Nat) : Int) = ((l : Int) + (r : Int)) % 4294967296) := hide (by
    show (((l + r) % 4294967296 : Nat) : Int) = _
    omega)
  go_enter Tryz.func127, Tryz.ntmps127
  go_wp2
  go_ret
  rw [HV.out]
  exact ⟨rfl, rfl⟩
set_option maxRecDepth 100000 in
set_option maxHeartbeats 2000000 in
theorem ap_sub (l r : Nat) (hr : r ≤ 4294967295) : Calls Tryz.prog 127 #[.string ⟨([45] : Tx).toArray⟩, .int .u32 (l : Nat), .int .u32 (r : Nat)] w fun e w' => e = .returned (.int .u32 (apV [45] l r : Nat)) ∧ w' = w := by
  have HV : Hid (((apV [45] l r : Nat) : Int) = ((l : Int) - (r : Int)) % 4294967296) := hide (by
    show (((l + (4294967296 - r)) % 4294967296 : Nat) : Int) = _
    omega)
  go_enter Tryz.func127, Tryz.ntmps127
  go_wp2
  go_ret
  rw [HV.out]
  exact ⟨rfl, rfl⟩
set_option maxRecDepth 100000 in
set_option maxHeartbeats 2000000 in
theorem ap_mul (l r : Nat) : Calls Tryz.prog 127 #[.string ⟨([42] : Tx).toArray⟩, .int .u32 (l : Nat), .int .u32 (r : Nat)] w fun e w' => e = .returned (.int .u32 (apV [42] l r : Nat)) ∧ w' = w := by
  have HV : Hid (((apV [42] l r : Nat) : Int) = ((l : Int) * (r : Int)) % 4294967296) := hide (by
    show (((l * r) % 4294967296 : Nat) : Int) = _
    simp)
  go_enter Tryz.func127, Tryz.ntmps127
  go_wp2
  go_ret
  rw [HV.out]
  exact ⟨rfl, rfl⟩
set_option maxRecDepth 100000 in
set_option maxHeartbeats 2000000 in
theorem ap_quo (l r : Nat) (hl : l ≤ 4294967295) (h0 : r ≠ 0) : Calls Tryz.prog 127 #[.string ⟨([47] : Tx).toArray⟩, .int .u32 (l : Nat), .int .u32 (r : Nat)] w fun e w' => e = .returned (.int .u32 (apV [47] l r : Nat)) ∧ w' = w := by
  have h0i : ¬ (r : Int) = 0 := by omega
  clear h0
  have HV : Hid (((apV [47] l r : Nat) : Int) = (l : Int) / (r : Int) % 4294967296) := hide (by
    show ((l / r : Nat) : Int) = _
    have h9 : l / r ≤ l := Nat.div_le_self l r
    rw [show (l : Int) / (r : Int) = ((l / r : Nat) : Int) by simp]
    generalize l / r = q at *
    omega)
  go_enter Tryz.func127, Tryz.ntmps127
  go_wp2
  go_ret
  rw [HV.out]
  exact ⟨rfl, rfl⟩
set_option maxRecDepth 100000 in
set_option maxHeartbeats 2000000 in
theorem ap_rem (l r : Nat) (hl : l ≤ 4294967295) (h0 : r ≠ 0) : Calls Tryz.prog 127 #[.string ⟨([37] : Tx).toArray⟩, .int .u32 (l : Nat), .int .u32 (r : Nat)] w fun e w' => e = .returned (.int .u32 (apV [37] l r : Nat)) ∧ w' = w := by
  have h0i : ¬ (r : Int) = 0 := by omega
  clear h0
  have HV : Hid (((apV [37] l r : Nat) : Int) = (l : Int) % (r : Int)) := hide (by
    show ((l % r : Nat) : Int) = _
    simp)
  go_enter Tryz.func127, Tryz.ntmps127
  go_wp2
  go_ret
  rw [HV.out]
  exact ⟨rfl, rfl⟩
theorem lv_cases {op : Tx} (h : lvT op ≠ 0) : op = [124, 124] ∨ op = [38, 38] ∨ op = [124] ∨ op = [94] ∨ op = [38] ∨ op = [61, 61] ∨ op = [33, 61] ∨ op = [60] ∨ op = [60, 61] ∨ op = [62] ∨ op = [62, 61] ∨ op = [60, 60] ∨ op = [62, 62] ∨ op = [43] ∨ op = [45] ∨ op = [42] ∨ op = [47] ∨ op = [37] := by
  unfold lvT at h
  cases hq : opsT.find? (fun o => o.1 == op) with
  | none => rw [hq] at h; exact absurd rfl h
  | some o =>
    have h1 := List.mem_of_find?_eq_some hq
    have h2 := List.find?_some hq
    simp only [beq_iff_eq] at h2
    rw [← h2]
    have : ∀ o ∈ opsT, o.1 = [124, 124] ∨ o.1 = [38, 38] ∨ o.1 = [124] ∨ o.1 = [94] ∨ o.1 = [38] ∨ o.1 = [61, 61] ∨ o.1 = [33, 61] ∨ o.1 = [60] ∨ o.1 = [60, 61] ∨ o.1 = [62] ∨ o.1 = [62, 61] ∨ o.1 = [60, 60] ∨ o.1 = [62, 62] ∨ o.1 = [43] ∨ o.1 = [45] ∨ o.1 = [42] ∨ o.1 = [47] ∨ o.1 = [37] := by decide
    exact this o h1
theorem apply_any (op : Tx) (l r : Nat) (hop : lvT op ≠ 0) (hl : l ≤ 4294967295) (hr : r ≤ 4294967295) (h0 : ¬ (r = 0 ∧ divT op = true)) : Calls Tryz.prog 127 #[.string ⟨op.toArray⟩, .int .u32 (l : Nat), .int .u32 (r : Nat)] w fun e w' => e = .returned (.int .u32 (apV op l r : Nat)) ∧ w' = w := by
  rcases lv_cases hop with rfl | rfl | rfl | rfl | rfl | rfl | rfl | rfl | rfl | rfl | rfl | rfl | rfl | rfl | rfl | rfl | rfl | rfl
  · exact ap_oror w l r
  · exact ap_andand w l r
  · exact ap_or w l r hl hr
  · exact ap_xor w l r hl hr
  · exact ap_and w l r hl hr
  · exact ap_eq w l r
  · exact ap_ne w l r
  · exact ap_lt w l r
  · exact ap_le w l r
  · exact ap_gt w l r
  · exact ap_ge w l r
  · exact ap_shl w l r
  · exact ap_shr w l r hl
  · exact ap_add w l r
  · exact ap_sub w l r hr
  · exact ap_mul w l r
  · exact ap_quo w l r hl (fun e => h0 ⟨e, rfl⟩)
  · exact ap_rem w l r hl (fun e => h0 ⟨e, rfl⟩)
end
end Go.Proofs.YtiafodeabdhcoaaGreatDoor
