import Derived.Deep.CutBlock
import Derived.Test.YtoddadohmnaolabMG
namespace Go.Proofs.Ytoddadohmnaolab
open Go.ChangeShapes Go.WideShapes Go.ChangeAt Go.RowKit Go.Deep Go.Shelf Go.Great

section
variable {rs : List (Option Er)} {last : Int}
theorem fr_look (rs : List (Option Er)) (e z : Int) (on : Bool) : look (frS rs e on) z = if z = e then (look rs z).map (fun r => { r with fz := on }) else look rs z := by
  unfold frS
  cases hl : look rs e with
  | none =>
    rw [atE_none hl]
    by_cases hz : z = e
    · rw [if_pos hz, hz, hl]; rfl
    · rw [if_neg hz]
  | some r =>
    obtain ⟨k, rfl, hr⟩ := look_some hl
    rw [atE_some hl]
    by_cases hz : z = (k : Int)
    · rw [if_pos hz, hz, hl, look_nat, List.getElem?_set_self (List.getElem?_eq_some_iff.1 hr).1]; rfl
    · rw [if_neg hz]
      unfold look
      by_cases h0 : z < 0
      · rw [if_pos h0, if_pos h0]
      · rw [if_neg h0, if_neg h0, List.getElem?_set_ne (fun e9 => hz (by omega))]
theorem fr_ln (e : Int) (on : Bool) : ∀ (n : Nat) (z : Int), upF (frS rs e on) n z = upF rs n z
  | 0, _ => rfl
  | n + 1, z => by
    simp only [upF, fr_look]
    by_cases hz : z = e
    · rw [if_pos hz]
      cases look rs z with
      | none => rfl
      | some r => simp only [Option.map_some]; rw [fr_ln e on n]
    · rw [if_neg hz]
      cases look rs z with
      | none => rfl
      | some r => simp only []; rw [fr_ln e on n]
theorem fr_flg (e z : Int) (on : Bool) : flg (frS rs e on) z = if z = e ∧ look rs z ≠ none then on else flg rs z := by
  unfold flg
  rw [fr_look]
  by_cases hz : z = e
  · rw [if_pos hz]
    cases hl : look rs z with
    | none => simp
    | some r => simp [hz]
  · rw [if_neg hz, if_neg (fun h => hz h.1)]
theorem line_mem {e : Int} {l : List Int} (h : Line rs e l) {z : Int} (hz : z ∈ l) : look rs z ≠ none := by
  obtain ⟨k, r, rfl, hr⟩ := line_lives h z hz
  rw [look_at hr]; simp
/-- frozen: what ran runs on just if it isn't inside -/
theorem fr_runs (iv : Tr rs last) (e z : Int) : rn (frS (frS rs e false) e true) z = (rn (frS rs e false) z && !decide (e ∈ ln (frS (frS rs e false) e true) z)) := by
  have hA : Line rs z (ln rs z) := (ln_line iv z).1
  have e1 : ln (frS (frS rs e false) e true) z = ln rs z := by unfold ln; rw [fr_ln, fr_ln]
  have e2 : ln (frS rs e false) z = ln rs z := by unfold ln; rw [fr_ln]
  have hany : (ln rs z).any (flg (frS (frS rs e false) e true)) = (decide (e ∈ ln rs z) || (ln rs z).any (flg (frS rs e false))) := by
    rw [Bool.eq_iff_iff]
    simp only [List.any_eq_true, Bool.or_eq_true, decide_eq_true_eq]
    constructor
    · rintro ⟨y, hy, hf⟩
      by_cases hye : y = e
      · left; rw [← hye]; exact hy
      · right
        rw [fr_flg, if_neg (fun h => hye h.1)] at hf
        exact ⟨y, hy, hf⟩
    · rintro (hm | ⟨y, hy, hf⟩)
      · refine ⟨e, hm, ?_⟩
        have h8 : look (frS rs e false) e ≠ none := by
          rw [fr_look, if_pos rfl]
          intro h9
          exact line_mem hA hm (by simpa using h9)
        rw [fr_flg, if_pos ⟨rfl, h8⟩]
      · refine ⟨y, hy, ?_⟩
        rw [fr_flg]
        split
        · rfl
        · exact hf
  unfold rn
  rw [e1, e2, hany, fr_look (frS rs e false)]
  by_cases hz : z = e
  · rw [if_pos hz]
    cases look (frS rs e false) z with
    | none => simp
    | some r => simp only [Option.map_some]; cases decide (r.st = 1) <;> cases decide (e ∈ ln rs z) <;> cases (ln rs z).any (flg (frS rs e false)) <;> rfl
  · rw [if_neg hz]
    cases look (frS rs e false) z with
    | none => simp
    | some r => simp only []; cases decide (r.st = 1) <;> cases decide (e ∈ ln rs z) <;> cases (ln rs z).any (flg (frS rs e false)) <;> rfl
theorem fr_back (e : Int) : frS (frS (frS rs e false) e true) e false = frS rs e false := by
  have h : ∀ on, frS rs e on = match look rs e with | none => rs | some r => rs.set e.toNat (some { r with fz := on }) := fun on => rfl
  cases hl : look rs e with
  | none =>
    have h1 : ∀ on, frS rs e on = rs := fun on => by unfold frS; exact atE_none hl
    rw [h1, h1, h1]
  | some r =>
    obtain ⟨k, rfl, hr⟩ := look_some hl
    have hk := (List.getElem?_eq_some_iff.1 hr).1
    have h1 : frS rs (k : Int) false = rs.set k (some { r with fz := false }) := by unfold frS; rw [atE_some hl]
    have l1 : look (frS rs (k : Int) false) (k : Int) = some { r with fz := false } := by rw [fr_look, if_pos rfl, hl]; rfl
    have h2 : frS (frS rs (k : Int) false) (k : Int) true = (rs.set k (some { r with fz := false })).set k (some { r with fz := true }) := by unfold frS at l1 h1 ⊢; rw [atE_some l1, h1]
    have l2 : look (frS (frS rs (k : Int) false) (k : Int) true) (k : Int) = some { r with fz := true } := by rw [fr_look, if_pos rfl, l1]; rfl
    have h3 : frS (frS (frS rs (k : Int) false) (k : Int) true) (k : Int) false = ((rs.set k (some { r with fz := false })).set k (some { r with fz := true })).set k (some { r with fz := false }) := by
      unfold frS at l2 h2 ⊢; rw [atE_some l2, h2]
    rw [h3, h1]
    simp
def fzE (rs : List (Option Er)) (e : Int) : Int := match look rs e with | none => 90 | some _ => 0
end
section
variable {w : World} {F : Nat → Prop} {T B : Nat} {rs : List (Option Er)} {last : Int}
theorem freeze_ns (h : Ns w F T B rs last) (e : Int) (on : Bool) : Calls Try.prog 12 #[.pointer (some ⟨T, 0, none⟩), .int .i64 e, .bool on] w fun x w' => x = .returned (.int .i64 (fzE rs e)) ∧ Ns w' F T B (frS rs e on) last ∧ Mod F w w' := by
  unfold fzE
  cases hl : look rs e with
  | none =>
    rw [show frS rs e on = rs by unfold frS; exact atE_none hl]
    exact (freezeNone_any w F T rs last h.et e hl on).mono (fun x w' ⟨h1, h2⟩ => ⟨h1, by rw [h2]; exact h, by rw [h2]; exact Mod.refl _ _⟩)
  | some r =>
    obtain ⟨k, rfl, hr⟩ := look_some hl
    rw [show frS rs (k : Int) on = rs.set k (some { r with fz := on }) by unfold frS; rw [atE_some hl]]
    refine (freeze_any w F T rs last h.et k r hr on).mono (fun x w' ⟨h1, h2, h3⟩ => ⟨h1, ?_, h3⟩)
    have hq := Qu.at h.iv h.wd hr h2 h3 rfl rfl rfl rfl rfl (h.wd k r hr)
    exact ⟨h2, hq.2.2.1, hq.2.2.2.1, (h.bq.keep (h3.block B h.bq.lt h.ne)).kq hq.2.2.2.2, h.ne⟩
theorem lives_all (h : Ns w F T B rs last) (e : Int) : Calls Try.prog 14 #[.pointer (some ⟨B, 0, none⟩), .int .i64 e] w fun x w' => x = .returned (.bool (decide (fzE rs e = 0))) ∧ w' = w := by
  unfold fzE
  cases hl : look rs e with
  | none => exact lives_no h.bq e hl
  | some r =>
    obtain ⟨k, rfl, hr⟩ := look_some hl
    have := lives_any h.bq k (lv_lt h.iv.tr ⟨r, hr⟩)
    rw [show lvb rs k = true by unfold lvb; rw [core_at hr]; rfl] at this
    exact this
end
theorem below_mg {F : Nat → Prop} {w0 w1 w2 : World} (h : Below w0.heap.size w0 w1) (hF : ∀ b, F b → w0.heap.size ≤ b) (hm : Mod F w1 w2) : Below w0.heap.size w0 w2 :=
  ⟨hm.os.trans h.os, hm.tape.trans h.tape, hm.output.trans h.output, Nat.le_trans h.size hm.size, fun b hb => (hm.block b (Nat.lt_of_lt_of_le hb h.size) (fun hf => by have := hF b hf; omega)).trans (h.block b hb)⟩
theorem rn_first : rn (stS rs3 2 1 0) 2 = true := by decide +kernel
end Go.Proofs.Ytoddadohmnaolab

namespace Go.Proofs.Ytoddadohmnaolab
open Go.ChangeShapes Go.WideShapes Go.ChangeAt Go.RowKit Go.Deep Go.Shelf Go.Great

theorem allocB16 {ops : Array Oper} {rest : List Oper} {op : Oper} {a : Act} {w : World} {Q : Exit → Act → World → Prop} (hw : Region.wanted op (yielded ops a.tmps) = true) (ho : op.op = .alloc 45)
    (h : wpList Try.prog ops Q rest (a.put op.dst (.pointer (some ⟨w.heap.size, 0, none⟩))) (w.alloc (.cells (bl (fun _ => false)).toArray 45))) : wpList Try.prog ops Q (op :: rest) a w :=
  BigFrame.wpList_want hw fun _ hK => by
    have hrun : (execOp a.eval op).run Try.prog w = .ok (.value (.pointer (some ⟨w.heap.size, 0, none⟩))) (w.alloc (.cells (bl (fun _ => false)).toArray 45)) := by
      unfold execOp
      rw [ho]
      kernel_rfl
    unfold Oper.wp
    rw [hrun, Oper.upon_value]
    exact hK _ _ h
def freshB (w : World) (cs : List Value) : World := (w.alloc (.cells (bl (fun _ => false)).toArray 45)).setCells w.heap.size 0 cs
theorem freshB_bl (w : World) {cs : List Value} (h : cs.length = 16) : (freshB w cs).heap[w.heap.size]? = some (.cells cs.toArray 45 (0, 0)) := by
  have h9 := heap_setCells_row w.heap.size 45 cs 0 _ (bl (fun _ => false)) (heap_alloc_new w (.cells (bl (fun _ => false)).toArray 45))
  rw [setsL_all (bl (fun _ => false)) cs (by rw [bl_len, h])] at h9
  exact h9
theorem freshB_below (w : World) (cs : List Value) : Below w.heap.size w (freshB w cs) :=
  below_setCells ((Below.refl w.heap.size w).alloc (Nat.le_refl _) _) (Nat.le_refl _) _ _
set_option maxRecDepth 100000 in
set_option maxHeartbeats 12800000 in
theorem freezes_walk (a : Option Addr) (len cap : Nat) (O : Nat → Ov) (e : Int) (w : World) (hl : len ≤ maxLen) (hZ : IsOps w a len O) :
    Calls Try.prog 3 #[.slice a len cap, .int .i64 e] w fun x w' => x = .returned (.bool true) ∧ Below w.heap.size w w' := by
  have HZ := hide hZ
  have HF := hide (first_ns w)
  unfold maxLen at hl
  clear hZ
  go_enter Try.func3, Try.ntmps3
  go_wp2_with fail
  refine HF.out.mono ?_
  rintro x w1 ⟨T, B, rfl, hB, F, hN, hF, hb⟩
  have HN := hide hN
  have HFl := hide hF
  have HB := hide hb
  have HBl := hide hB
  have HSs := hide (setState_q hN.et hN.iv hN.wd 2 1 0)
  clear hN hF hb hB HF
  go_wp2_with fail
  refine HSs.out.mono ?_
  rintro x w2 ⟨⟨c, rfl⟩, hq⟩
  have hN2 : Ns w2 F T B (stS rs3 2 1 0) 3 := ⟨hq.1, hq.2.2.1, hq.2.2.2.1, (HN.out.bq.keep (hq.2.1.block B HN.out.bq.lt HN.out.ne)).kq hq.2.2.2.2, HN.out.ne⟩
  have HN2 := hide hN2
  have HB2 := hide (below_mg HB.out HFl.out hq.2.1)
  have hRu := runs_all hN2.et hN2.iv.tr 2
  rw [rn_first] at hRu
  have HRu := hide hRu
  clear hRu hN2 hq HSs HN HB
  go_wp2_with fail
  refine HRu.out.mono ?_
  rintro x w3 ⟨rfl, hb3⟩
  have HN3 := hide (HN2.out.below hb3)
  have HB3 := hide (HB2.out.trans (hb3.mono HB2.out.size))
  clear hb3 HRu HN2 HB2
  generalize stS rs3 2 1 0 = rs0 at *
  go_upto_region 8 with fail
  go_loopw [7] (fun x wr => ∃ j : Nat, j ≤ len ∧ x = .int .i64 (j : Int) ∧ ∃ rs last F, Hid (Ns wr F T B rs last) ∧ Hid (∀ b, F b → w.heap.size ≤ b) ∧ Hid (Below w.heap.size w wr)) (fun x _ => len - (intOf x).toNat)
  case atStart => exact ⟨0, by omega, rfl, rs0, 3, F, HN3, HFl, HB3⟩
  case round =>
  clear HN3 HFl HB3
  obtain ⟨j, hj, rfl, rs, last, F, KN, KF, KB⟩ := hrel
  by_cases hlt : j < len
  · have hd : decide ((j : Int) < (len : Int)) = true := by simp; omega
    have hj3 : (j : Int) < (len : Int) := by omega
    obtain ⟨ad, rfl, hcl⟩ := HZ.out.below KB.out j hlt
    have HCl := hide hcl
    have HNo : Hid (Calls Try.prog 9 #[.pointer (some ⟨B, 0, none⟩), .pointer (some ⟨T, 0, none⟩), .agg (O j).cells.toArray] wr fun x w' => x = .returned (.bool true) ∧ Np wr F T B w') := hide (noted_any KN.out (O j).kd (O j).t (O j).e (O j).n (O j).m (O j).q (O j).g (O j).pc (O j).on)
    clear hcl
    generalize hoj : O j = o at *
    clear hoj
    go_wp2_with (refine loadOp o ?lw _ rfl (ad.add (j * 18)) ?lx HCl.out ?_; rotate_left 2)
    try (case lw => rfl)
    try (case lx => rfl)
    refine HNo.out.mono ?_
    rintro x2 w2 ⟨rfl, rs', last', F', hN2, hX⟩
    obtain ⟨hm, hf⟩ := hX
    have HN2 := hide hN2
    have KF2 : Hid (∀ b, F' b → w.heap.size ≤ b) := hide (fun b hb => by
      rcases hf b (.inr hb) with (e9 | e9) | e9
      · rw [e9]; exact HBl.out
      · exact KF.out b e9
      · exact Nat.le_trans KB.out.size e9)
    have KB2 : Hid (Below w.heap.size w w2) := hide ⟨hm.os.trans KB.out.os, hm.tape.trans KB.out.tape, hm.output.trans KB.out.output, Nat.le_trans KB.out.size hm.size, fun b hb => (hm.block b (Nat.lt_of_lt_of_le hb KB.out.size) (fun e9 => by
      rcases e9 with e9 | e9
      · have := HBl.out; omega
      · have := KF.out b e9; omega)).trans (KB.out.block b hb)⟩
    clear hN2 hm hf HNo HCl KN KF KB
    go_wp2
    go_roundw
    case rel =>
      first
        | exact ⟨j + 1, by omega, by go_num, rs', last', F', HN2, KF2, KB2⟩
        | ((repeat apply Exists.intro); refine ⟨?_, rfl⟩; exact ⟨j + 1, by omega, by go_num, rs', last', F', HN2, KF2, KB2⟩)
    case measure => simp [intOf]; omega
  · obtain rfl : j = len := by omega
    have hd : decide ((j : Int) < (j : Int)) = false := by simp
    clear HZ
    go_upto_region 12 with fail
    go_loopw [8] (fun x wq => ∃ k : Nat, k ≤ 16 ∧ x = .int .i64 (k : Int) ∧ Hid (Ns wq F T B rs last) ∧ Hid (Below w.heap.size w wq)) (fun x _ => 16 - (intOf x).toNat)
    case atStart => exact ⟨0, by omega, rfl, KN, KB⟩
    case round =>
    clear KN KB
    obtain ⟨k, hk, rfl, HN2, HB2⟩ := hrel
    by_cases h16 : k < 16
    · have hd2 : decide ((k : Int) < 16) = true := by simp; omega
      have HI := hide (info_both HN2.out.et k)
      go_wp2_with fail
      refine HI.out.mono ?_
      rintro x1 u1 ⟨rfl, hb1⟩
      have hz : Eb (u1.alloc (.cells Er.nil.head.toArray 40)) u1.heap.size Er.nil := Eb.new _ _
      have HEb := hide (freshE_eb u1 (tf rs k))
      have hb2 := hb1.trans ((freshE_below u1 (tf rs k)).mono hb1.size)
      have HN3 := hide (HN2.out.below hb2)
      have HB3 := hide (HB2.out.trans (hb2.mono HB2.out.size))
      clear hb1 hb2 HI HN2 HB2
      obtain ⟨t, ht⟩ : ∃ t, t = tf rs k := ⟨_, rfl⟩
      obtain ⟨tc, htc⟩ : ∃ tc, tc = tg rs k := ⟨_, rfl⟩
      have HTt := hide ht
      have HTc := hide htc
      rw [← ht] at HEb HN3 HB3 ⊢
      rw [← htc]
      clear ht htc
      go_upto_region 15 with (refine storeE t ?nw _ _ rfl u1.heap.size Er.nil ?nx ?ny ?nz ?_; rotate_left 4; change wpList _ _ _ _ _ (freshE u1 t); generalize freshE u1 t = u2 at *)
      try (case nw => rfl)
      try (case nx => rfl)
      try (case ny => rfl)
      try (case nz => exact hz)
      clear hz
      generalize u1.heap.size = M at *
      have HRu := hide (runs_all HN3.out.et HN3.out.iv.tr (k : Int))
      obtain ⟨rb, hrb⟩ : ∃ rb, rb = rn rs (k : Int) := ⟨_, rfl⟩
      have HRb := hide hrb
      rw [← hrb] at HRu
      clear hrb
      go_wp2_with fail
      refine HRu.out.mono ?_
      rintro x1 u3 ⟨rfl, hb3⟩
      have HN4 := hide (HN3.out.below hb3)
      have HB4 := hide (HB3.out.trans (hb3.mono HB3.out.size))
      have HE4 := hide (HEb.out.keep (hb3.block M HEb.out.lt))
      clear hb3 HN3 HB3 HEb HRu
      have m2 : u3.cell? ⟨M, 2, none⟩ = some (.int .i64 t.st) := HE4.out.get (j := 2) rfl
      cases hlk : look rs (k : Int) with
      | none =>
        have hc9 : tc = 90 := by rw [HTc.out]; unfold tg; rw [hlk]
        have hr9 : rb = false := by rw [HRb.out]; unfold rn; rw [hlk]
        subst hc9
        subst hr9
        clear m2 HE4
        go_wp2
        go_roundw
        case rel =>
          first
            | exact ⟨k + 1, by omega, by go_num, HN4, HB4⟩
            | ((repeat apply Exists.intro); refine ⟨?_, rfl⟩; exact ⟨k + 1, by omega, by go_num, HN4, HB4⟩)
        case measure => simp [intOf]; omega
      | some r =>
        have hc9 : tc = 0 := by rw [HTc.out]; unfold tg; rw [hlk]
        have ht9 : t.st = r.st := by rw [HTt.out]; unfold tf; rw [hlk]; rfl
        obtain ⟨k', e9, hr⟩ := look_some hlk
        obtain rfl : k = k' := by omega
        subst hc9
        rw [ht9] at m2
        by_cases hst : r.st = 1
        · have hr9 : rb = !((ln rs (k : Int)).any (flg rs)) := by rw [HRb.out]; unfold rn; rw [hlk]; simp [hst]
          rw [hst] at m2
          have hFl := flaggedL_any HN4.out.et HN4.out.iv.tr k r hr
          generalize (ln rs (k : Int)).any (flg rs) = fb at *
          subst hr9
          have HFl := hide hFl
          clear hFl hlk hr e9 HE4 hst ht9 HTt HTc HRb
          go_wp2_with fail
          refine HFl.out.mono ?_
          rintro x1 u4 ⟨rfl, hb4⟩
          have HN5 := hide (HN4.out.below hb4)
          have HB5 := hide (HB4.out.trans (hb4.mono HB4.out.size))
          clear hb4 HN4 HB4 HFl m2
          cases fb
          · go_wp2
            go_roundw
            case rel =>
              first
                | exact ⟨k + 1, by omega, by go_num, HN5, HB5⟩
                | ((repeat apply Exists.intro); refine ⟨?_, rfl⟩; exact ⟨k + 1, by omega, by go_num, HN5, HB5⟩)
            case measure => simp [intOf]; omega
          · go_wp2
            go_roundw
            case rel =>
              first
                | exact ⟨k + 1, by omega, by go_num, HN5, HB5⟩
                | ((repeat apply Exists.intro); refine ⟨?_, rfl⟩; exact ⟨k + 1, by omega, by go_num, HN5, HB5⟩)
            case measure => simp [intOf]; omega
        · have hr9 : rb = false := by rw [HRb.out]; unfold rn; rw [hlk]; simp [hst]
          have hsb : (r.st == 1) = false := by simp [hst]
          subst hr9
          clear HE4 hlk hr e9 ht9 HTt HTc HRb
          go_wp2
          go_roundw
          case rel =>
            first
              | exact ⟨k + 1, by omega, by go_num, HN4, HB4⟩
              | ((repeat apply Exists.intro); refine ⟨?_, rfl⟩; exact ⟨k + 1, by omega, by go_num, HN4, HB4⟩)
          case measure => simp [intOf]; omega
    · obtain rfl : k = 16 := by omega
      have HFz := hide (freeze_ns HN2.out e false)
      have HTr := hide HN2.out.iv.tr
      go_wp2_with fail
      refine HFz.out.mono ?_
      rintro x1 u1 ⟨rfl, hN3, hm3⟩
      have HN3 := hide hN3
      have HB3 := hide (below_mg HB2.out KF.out hm3)
      have HRn := hide (running_any hN3.et hN3.iv.tr)
      clear hN3 hm3 HFz HN2 HB2
      obtain ⟨cs, hcs⟩ : ∃ cs, cs = bl (fun i => rn (frS rs e false) (i : Int)) := ⟨_, rfl⟩
      rw [← hcs] at HRn
      have HCs := hide hcs
      have hlc : cs.length = 16 := by rw [hcs]; exact bl_len _
      have HOne := hide (show ∀ u ∈ cs, u.oneCell' = true by rw [hcs]; exact bl_one _)
      have HSe := hide (show Se 10000 45 (.agg cs.toArray) by rw [hcs]; exact se_bl 9998 _)
      have HGet := hide (show ∀ i, i < 16 → cs[i]? = some (.bool (rn (frS rs e false) (i : Int))) by rw [hcs]; exact fun i hi => bl_get _ hi)
      have hi : (Try.prog.info? 45).map (·.size) = some cs.length := by rw [hlc]; exact infoB16
      have hle : 0 + cs.length ≤ (bl (fun _ => false)).length := by rw [bl_len, hlc]; omega
      clear hcs
      go_wp2_with fail
      refine HRn.out.mono ?_
      rintro x1 u2 ⟨rfl, hb2⟩
      have hb4 := hb2.trans ((freshB_below u2 cs).mono hb2.size)
      have HN4 := hide (HN3.out.below hb4)
      have HB4 := hide (HB3.out.trans (hb4.mono HB3.out.size))
      have HM := hide (freshB_bl u2 hlc)
      have HMF : Hid (¬ F u2.heap.size) := hide (fun h9 => by have := (HN3.out.below hb2).et.lt _ h9; omega)
      clear hb2 hb4 HN3 HB3 HRn
      go_upto_region 19 with (first
        | (refine allocB16 rfl rfl ?_)
        | (refine storeT cs hi HOne.out rfl _ _ rfl u2.heap.size 0 rfl rfl (bl (fun _ => false)) (heap_alloc_new u2 _) hle ?_; change wpList _ _ _ _ _ (freshB u2 cs); generalize freshB u2 cs = u3 at *))
      generalize u2.heap.size = M at *
      have HFz := hide (freeze_ns HN4.out e true)
      have hff : fzE (frS (frS rs e false) e true) e = fzE (frS rs e false) e := by unfold fzE; rw [fr_look (frS rs e false), if_pos rfl]; cases look (frS rs e false) e <;> rfl
      go_wp2_with fail
      refine HFz.out.mono ?_
      rintro x1 u4 ⟨rfl, hN5, hm5⟩
      have HN5 := hide hN5
      have HB5 := hide (below_mg HB4.out KF.out hm5)
      have HM5 := hide ((hm5.block M (Array.getElem?_eq_some_iff.1 HM.out).1 HMF.out).trans HM.out)
      have hLi := lives_all hN5 e
      rw [hff] at hLi
      have HLi := hide hLi
      clear hN5 hm5 HFz HN4 HB4 HM hff hLi
      generalize fzE (frS rs e false) e = fz at *
      go_upto_region 20 with fail
      go_cut [78] (fun v wx => v = .bool false ∧ wx = u4)
      case first =>
        by_cases hz : fz = 0
        · have hz1 : (fz == 0) = true := by simp [hz]
          have hz2 : decide (fz = 0) = true := by simp [hz]
          rw [hz2] at HLi
          have HZ0 := hide hz
          clear hz hz2
          go_wp2_with fail
          refine HLi.out.mono ?_
          rintro x1 u5 ⟨rfl, rfl⟩
          go_wp2_with fail
          go_meet
          case rel => exact ⟨rfl, rfl⟩
        · have hz1 : (fz == 0) = false := by simp [hz]
          have hz2 : decide (fz = 0) = false := by simp [hz]
          rw [hz2] at HLi
          clear hz2
          go_wp2_with fail
          refine HLi.out.mono ?_
          rintro x1 u5 ⟨rfl, rfl⟩
          go_wp2_with fail
          go_meet
          case rel => exact ⟨rfl, rfl⟩
      case rest =>
      obtain ⟨rfl, rfl⟩ := hcut
      obtain ⟨u5, hu5⟩ : ∃ u5, u5 = wc := ⟨wc, rfl⟩
      subst hu5
      clear HLi
      go_upto_region 23 with fail
      go_loopw [13] (fun x wr => ∃ k : Nat, k ≤ 16 ∧ x = .int .i64 (k : Int) ∧ Hid (Below u5.heap.size u5 wr)) (fun x _ => 16 - (intOf x).toNat)
      case atStart => exact ⟨0, by omega, rfl, Below.refl _ _⟩
      case round =>
      obtain ⟨k, hk, rfl, KQ⟩ := hrel
      by_cases h16 : k < 16
      · have hd3 : decide ((k : Int) < 16) = true := by simp; omega
        have hk3 : (k : Int) < 16 := by omega
        have HRu := hide (fun W (hW : Below u5.heap.size u5 W) => runs_all (HN5.out.below hW).et HN5.out.iv.tr (k : Int))
        have HIn := hide (fun W (hW : Below u5.heap.size u5 W) => inside_any (HN5.out.below hW).et HN5.out.iv.tr e (k : Int))
        have hru := fr_runs HTr.out e (k : Int)
        have hge := HGet.out k h16
        have HCe : Hid (∀ W, Below u5.heap.size u5 W → W.cell? ⟨M, k, none⟩ = some (.bool (rn (frS rs e false) (k : Int)))) := hide (fun W hW => by
          rw [cell_of_row _ _ _ _ _ _ ((hW.block M (Array.getElem?_eq_some_iff.1 HM5.out).1).trans HM5.out)]
          simpa using hge)
        simp only [hru] at HRu
        clear hge hru
        generalize rn (frS rs e false) (k : Int) = fa at *
        generalize decide (e ∈ ln (frS (frS rs e false) e true) (k : Int)) = ib at *
        go_upto_region 25 with fail
        obtain ⟨w6, hw6⟩ : ∃ w6, w6 = wr.drew := ⟨_, rfl⟩
        have hb6 : Below wr.heap.size wr w6 := by rw [hw6]; exact ⟨rfl, rfl, rfl, Nat.le_refl _, fun _ _ => rfl⟩
        have K6 := hide (KQ.out.trans (hb6.mono KQ.out.size))
        have HS6 := hide (HCe.out w6 K6.out)
        clear hb6 KQ
        refine wp_region_held_drew (S := fun W => W.cell? ⟨M, k, none⟩ = some (.bool fa)) (by kernel_rfl) (by rw [← hw6]; exact HS6.out) (fun _ => ?_)
        rw [← hw6]
        clear hw6
        refine hd_take 0 (o := ⟨some 83, _, _, _, _, _⟩) (.pointer (some ⟨T, 0, none⟩)) (by kernel_rfl) (by kernel_rfl) (by kernel_rfl) rfl (by rfl) (fun W hSw => by go_simp) (fun _ _ _ h => h) HS6.out ?_
        try simp only [Act.put, List.setIfInBounds_toArray, List.set_cons_zero, List.set_cons_succ]
        refine hd_take 1 (o := ⟨some 84, _, _, _, _, _⟩) (.int .i64 (k : Int)) (by kernel_rfl) (by kernel_rfl) (by kernel_rfl) rfl (by rfl) (fun W hSw => by go_simp) (fun _ _ _ h => h) HS6.out ?_
        try simp only [Act.put, List.setIfInBounds_toArray, List.set_cons_zero, List.set_cons_succ]
        refine hd_take 3 (o := ⟨some 86, _, _, _, _, _⟩) (.int .i64 (k : Int)) (by kernel_rfl) (by kernel_rfl) (by kernel_rfl) rfl (by rfl) (fun W hSw => by go_simp) (fun _ _ _ h => h) HS6.out ?_
        try simp only [Act.put, List.setIfInBounds_toArray, List.set_cons_zero, List.set_cons_succ]
        refine hd_take 4 (o := ⟨some 87, _, _, _, _, _⟩) (.pointer (some ⟨M, k, none⟩)) (by kernel_rfl) (by kernel_rfl) (by kernel_rfl) rfl (by rfl) (fun W hSw => by go_simp) (fun _ _ _ h => h) HS6.out ?_
        try simp only [Act.put, List.setIfInBounds_toArray, List.set_cons_zero, List.set_cons_succ]
        refine hd_take 5 (o := ⟨some 88, _, _, _, _, _⟩) (.bool fa) (by kernel_rfl) (by kernel_rfl) (by kernel_rfl) rfl (by rfl) (fun W hSw => by have q0 := hSw; go_simp) (fun _ _ _ h => h) HS6.out ?_
        try simp only [Act.put, List.setIfInBounds_toArray, List.set_cons_zero, List.set_cons_succ]
        refine hd_call 2 (o := ⟨some 85, _, _, _, _, _⟩) (by kernel_rfl) rfl (by rfl) (fun K hK => ?_)
        go_simp
        go_wp2_with (go_at_call 8; refine (HRu.out w6 K6.out).mono ?_; rintro e1 w7 ⟨rfl, hb7⟩)
        have K7 := hide (K6.out.trans (hb7.mono K6.out.size))
        have HS7 := hide (HCe.out w7 K7.out)
        clear hb7
        refine hK _ _ HS7.out ?_
        clear hK K
        try simp only [Act.put, List.setIfInBounds_toArray, List.set_cons_zero, List.set_cons_succ]
        refine hd_take 6 (o := ⟨some 89, _, _, _, _, _⟩) (.bool fa) (by kernel_rfl) (by kernel_rfl) (by kernel_rfl) rfl (by rfl) (fun W hSw => by go_simp) (fun _ _ _ h => h) HS7.out ?_
        try simp only [Act.put, List.setIfInBounds_toArray, List.set_cons_zero, List.set_cons_succ]
        cases fa
        · simp only [Bool.false_and]
          refine hd_skip 7 (o := ⟨some 90, _, _, _, _, _⟩) (by kernel_rfl) (by kernel_rfl) (by kernel_rfl) rfl (by rfl) (fun _ _ _ h => h) HS7.out ?_
          try simp only [Act.put, List.setIfInBounds_toArray, List.set_cons_zero, List.set_cons_succ]
          refine hd_skip 8 (o := ⟨some 91, _, _, _, _, _⟩) (by kernel_rfl) (by kernel_rfl) (by kernel_rfl) rfl (by rfl) (fun _ _ _ h => h) HS7.out ?_
          try simp only [Act.put, List.setIfInBounds_toArray, List.set_cons_zero, List.set_cons_succ]
          refine hd_skip 9 (o := ⟨some 92, _, _, _, _, _⟩) (by kernel_rfl) (by kernel_rfl) (by kernel_rfl) rfl (by rfl) (fun _ _ _ h => h) HS7.out ?_
          try simp only [Act.put, List.setIfInBounds_toArray, List.set_cons_zero, List.set_cons_succ]
          refine hd_skip 10 (o := ⟨some 93, _, _, _, _, _⟩) (by kernel_rfl) (by kernel_rfl) (by kernel_rfl) rfl (by rfl) (fun _ _ _ h => h) HS7.out ?_
          try simp only [Act.put, List.setIfInBounds_toArray, List.set_cons_zero, List.set_cons_succ]
          refine hd_skip 11 (o := ⟨some 94, _, _, _, _, _⟩) (by kernel_rfl) (by kernel_rfl) (by kernel_rfl) rfl (by rfl) (fun _ _ _ h => h) HS7.out ?_
          try simp only [Act.put, List.setIfInBounds_toArray, List.set_cons_zero, List.set_cons_succ]
          refine hd_take 12 (o := ⟨some 95, _, _, _, _, _⟩) (.bool false) (by kernel_rfl) (by kernel_rfl) (by kernel_rfl) rfl (by rfl) (fun W hSw => by go_simp) (fun _ _ _ h => h) HS7.out ?_
          try simp only [Act.put, List.setIfInBounds_toArray, List.set_cons_zero, List.set_cons_succ]
          refine hd_take 13 (o := ⟨some 96, _, _, _, _, _⟩) (.bool false) (by kernel_rfl) (by kernel_rfl) (by kernel_rfl) rfl (by rfl) (fun W hSw => by go_simp) (fun _ _ _ h => h) HS7.out ?_
          try simp only [Act.put, List.setIfInBounds_toArray, List.set_cons_zero, List.set_cons_succ]
          refine wpAnyH_done (by kernel_rfl) ?_ _
          clear HS6 HS7 HCe HRu HIn K6
          go_wp2
          go_roundw
          case rel =>
            first
              | exact ⟨k + 1, by omega, by go_num, K7⟩
              | ((repeat apply Exists.intro); refine ⟨?_, rfl⟩; exact ⟨k + 1, by omega, by go_num, K7⟩)
          case measure => simp [intOf]; omega
        · simp only [Bool.true_and]
          refine hd_take 7 (o := ⟨some 90, _, _, _, _, _⟩) (.pointer (some ⟨T, 0, none⟩)) (by kernel_rfl) (by kernel_rfl) (by kernel_rfl) rfl (by rfl) (fun W hSw => by go_simp) (fun _ _ _ h => h) HS7.out ?_
          try simp only [Act.put, List.setIfInBounds_toArray, List.set_cons_zero, List.set_cons_succ]
          refine hd_take 8 (o := ⟨some 91, _, _, _, _, _⟩) (.int .i64 e) (by kernel_rfl) (by kernel_rfl) (by kernel_rfl) rfl (by rfl) (fun W hSw => by go_simp) (fun _ _ _ h => h) HS7.out ?_
          try simp only [Act.put, List.setIfInBounds_toArray, List.set_cons_zero, List.set_cons_succ]
          refine hd_take 9 (o := ⟨some 92, _, _, _, _, _⟩) (.int .i64 (k : Int)) (by kernel_rfl) (by kernel_rfl) (by kernel_rfl) rfl (by rfl) (fun W hSw => by go_simp) (fun _ _ _ h => h) HS7.out ?_
          try simp only [Act.put, List.setIfInBounds_toArray, List.set_cons_zero, List.set_cons_succ]
          refine hd_call 10 (o := ⟨some 93, _, _, _, _, _⟩) (by kernel_rfl) rfl (by rfl) (fun K hK => ?_)
          go_simp
          go_wp2_with (go_at_call 15; refine (HIn.out w7 K7.out).mono ?_; rintro e1 w8 ⟨rfl, hb8⟩)
          have K8 := hide (K7.out.trans (hb8.mono K7.out.size))
          have HS8 := hide (HCe.out w8 K8.out)
          clear hb8
          refine hK _ _ HS8.out ?_
          clear hK K
          try simp only [Act.put, List.setIfInBounds_toArray, List.set_cons_zero, List.set_cons_succ]
          refine hd_take 11 (o := ⟨some 94, _, _, _, _, _⟩) (.bool (!ib)) (by kernel_rfl) (by kernel_rfl) (by kernel_rfl) rfl (by rfl) (fun W hSw => by go_simp) (fun _ _ _ h => h) HS8.out ?_
          try simp only [Act.put, List.setIfInBounds_toArray, List.set_cons_zero, List.set_cons_succ]
          refine hd_take 12 (o := ⟨some 95, _, _, _, _, _⟩) (.bool (!ib)) (by kernel_rfl) (by kernel_rfl) (by kernel_rfl) rfl (by rfl) (fun W hSw => by go_simp) (fun _ _ _ h => h) HS8.out ?_
          try simp only [Act.put, List.setIfInBounds_toArray, List.set_cons_zero, List.set_cons_succ]
          refine hd_take 13 (o := ⟨some 96, _, _, _, _, _⟩) (.bool false) (by kernel_rfl) (by kernel_rfl) (by kernel_rfl) rfl (by rfl) (fun W hSw => by cases ib <;> go_simp) (fun _ _ _ h => h) HS8.out ?_
          try simp only [Act.put, List.setIfInBounds_toArray, List.set_cons_zero, List.set_cons_succ]
          refine wpAnyH_done (by kernel_rfl) ?_ _
          clear HS6 HS7 HS8 HCe HRu HIn K6 K7
          go_wp2
          go_roundw
          case rel =>
            first
              | exact ⟨k + 1, by omega, by go_num, K8⟩
              | ((repeat apply Exists.intro); refine ⟨?_, rfl⟩; exact ⟨k + 1, by omega, by go_num, K8⟩)
          case measure => simp [intOf]; omega
      · obtain rfl : k = 16 := by omega
        have HN6 := hide (HN5.out.below KQ.out)
        have HB6 := hide (HB5.out.trans (KQ.out.mono HB5.out.size))
        have HM6 := hide ((KQ.out.block M (Array.getElem?_eq_some_iff.1 HM5.out).1).trans HM5.out)
        have hFz := freeze_ns HN6.out e false
        rw [fr_back] at hFz
        have HFz := hide hFz
        clear hFz HN5 HB5 HM5 KQ
        generalize fzE (frS (frS rs e false) e true) e = fz2 at *
        go_wp2_with fail
        refine HFz.out.mono ?_
        rintro x1 u6 ⟨rfl, hN7, hm7⟩
        have HN7 := hide hN7
        have HB7 := hide (below_mg HB6.out KF.out hm7)
        have HM7 := hide ((hm7.block M (Array.getElem?_eq_some_iff.1 HM6.out).1 HMF.out).trans HM6.out)
        clear hN7 hm7 HN6 HB6 HM6 HFz
        go_upto_region 28 with fail
        obtain ⟨w6, hw6⟩ : ∃ w6, w6 = u6.drew := ⟨_, rfl⟩
        have hb6 : Below u6.heap.size u6 w6 := by rw [hw6]; exact ⟨rfl, rfl, rfl, Nat.le_refl _, fun _ _ => rfl⟩
        have HN8 := hide (HN7.out.below hb6)
        have HB8 := hide (HB7.out.trans (hb6.mono HB7.out.size))
        have HM8 := hide ((hb6.block M (Array.getElem?_eq_some_iff.1 HM7.out).1).trans HM7.out)
        have hRn := running_any HN8.out.et HN8.out.iv.tr
        rw [← HCs.out] at hRn
        have HRn := hide hRn
        clear hb6 HN7 HB7 HM7 hRn
        refine wp_region_held_drew (S := fun W => W.heap[M]? = some (.cells cs.toArray 45 (0, 0))) (by kernel_rfl) (by rw [← hw6]; exact HM8.out) (fun _ => ?_)
        rw [← hw6]
        clear hw6
        refine hd_take 0 (o := ⟨some 100, _, _, _, _, _⟩) (.pointer (some ⟨T, 0, none⟩)) (by kernel_rfl) (by kernel_rfl) (by kernel_rfl) rfl (by rfl) (fun W hSw => by go_simp) (fun _ _ _ h => h) HM8.out ?_
        try simp only [Act.put, List.setIfInBounds_toArray, List.set_cons_zero, List.set_cons_succ]
        refine hd_take 2 (o := ⟨some 102, _, _, _, _, _⟩) (.agg cs.toArray) (by kernel_rfl) (by kernel_rfl) (by kernel_rfl) rfl (by rfl) (fun W hSw => by exact run_loadT Try.underlying45 rfl cs hi _ rfl ⟨M, 0, none⟩ rfl (fun j v hv => by rw [add_nat, cell_of_row _ _ _ _ _ _ hSw]; simpa using hv)) (fun _ _ _ h => h) HM8.out ?_
        try simp only [Act.put, List.setIfInBounds_toArray, List.set_cons_zero, List.set_cons_succ]
        refine hd_call 1 (o := ⟨some 101, _, _, _, _, _⟩) (by kernel_rfl) rfl (by rfl) (fun K hK => ?_)
        go_simp
        go_wp2_with (go_at_call 13; refine HRn.out.mono ?_; rintro e1 w7 ⟨rfl, hb7⟩)
        have HM9 := hide ((hb7.block M (Array.getElem?_eq_some_iff.1 HM8.out).1).trans HM8.out)
        have HB9 := hide (HB8.out.trans (hb7.mono HB8.out.size))
        clear hb7
        refine hK _ _ HM9.out ?_
        clear hK K
        try simp only [Act.put, List.setIfInBounds_toArray, List.set_cons_zero, List.set_cons_succ]
        refine hd_take 3 (o := ⟨some 103, _, _, _, _, _⟩) (.bool true) (by kernel_rfl) (by kernel_rfl) (by kernel_rfl) rfl (by rfl) (fun W hSw => by exact run_eqlT cs.toArray HSe.out (by kernel_rfl) _ _ rfl rfl rfl) (fun _ _ _ h => h) HM9.out ?_
        try simp only [Act.put, List.setIfInBounds_toArray, List.set_cons_zero, List.set_cons_succ]
        refine hd_take 4 (o := ⟨some 4, _, _, _, _, _⟩) (.bool true) (by kernel_rfl) (by kernel_rfl) (by kernel_rfl) rfl (by rfl) (fun W hSw => by go_simp) (fun _ _ _ h => h) HM9.out ?_
        try simp only [Act.put, List.setIfInBounds_toArray, List.set_cons_zero, List.set_cons_succ]
        refine wpAnyH_done (by kernel_rfl) ?_ _
        go_wp2
        go_ret
        exact ⟨rfl, HB9.out⟩
end Go.Proofs.Ytoddadohmnaolab
