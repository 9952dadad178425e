import Derived.Test.YtoddadohmnaolaaFP
namespace Go.Proofs.Ytoddadohmnaolaa
open Go.RowKit Go.Shelf

theorem infoOp : (Try.prog.info? 47).map (·.size) = some 18 := by kernel_rfl
theorem loadOp (o : Ov) {ops : Array Oper} {rest : List Oper} {op : Oper} {a : Act} {w : World} {Q : Exit → Act → World → Prop} (hw : Region.wanted op (yielded ops a.tmps) = true) (x : Operand) (ho : op.op = .load 47 x) (ad : Addr)
    (hx : a.eval x = .pointer (some ad)) (hc : ∀ (j : Nat) (v : Value), o.cells[j]? = some v → w.cell? (ad.add j) = some v) (h : wpList Try.prog ops Q rest (a.put op.dst (.agg o.cells.toArray)) w) : wpList Try.prog ops Q (op :: rest) a w :=
  loadT Try.underlying47 rfl o.cells (by rw [ov_len]; exact infoOp) hw x ho ad hx hc h
theorem lvb_some {rs : List (Option Er)} {i : Nat} (h : lvb rs i = true) : ∃ r, rs[i]? = some (some r) := by
  exact lv_core.2 h
set_option maxRecDepth 100000 in
set_option maxHeartbeats 6400000 in
theorem quotas_walk (a : Option Addr) (len cap : Nat) (O : Nat → Ov) (w : World) (hl : len ≤ maxLen) (hZ : IsOps w a len O) :
    Calls Try.prog 6 #[.slice a len cap] w fun x w' => x = .returned (.bool true) ∧ Below w.heap.size w w' := by
  have HZ := hide hZ
  have HF := hide (first_ns w)
  unfold maxLen at hl
  clear hZ
  go_enter Try.func6, Try.ntmps6
  go_wp2_with fail
  refine HF.out.mono ?_
  rintro x w1 ⟨T, B, rfl, hB, F, hN, hF, hb⟩
  have HN := hide hN
  have HFl := hide hF
  have HB := hide hb
  have HBl := hide hB
  clear hN hF hb hB HF
  go_upto_region 5 with fail
  go_loopw [5] (fun x wr => ∃ j : Nat, j ≤ len ∧ x = .int .i64 (j : Int) ∧ ∃ rs last F, Hid (Ns wr F T B rs last) ∧ Hid (∀ b, F b → w.heap.size ≤ b) ∧ Hid (Below w.heap.size w wr)) (fun x _ => len - (intOf x).toNat)
  case atStart => exact ⟨0, by omega, rfl, rs3, 3, F, HN, HFl, HB⟩
  case round =>
  clear HN HFl HB
  obtain ⟨j, hj, rfl, rs, last, F, KN, KF, KB⟩ := hrel
  by_cases hlt : j < len
  · have hd : decide ((j : Int) < (len : Int)) = true := by simp; omega
    have hj3 : (j : Int) < (len : Int) := by omega
    obtain ⟨ad, rfl, hcl⟩ := HZ.out.below KB.out j hlt
    have HCl := hide hcl
    have HNo : Hid (Calls Try.prog 16 #[.pointer (some ⟨B, 0, none⟩), .pointer (some ⟨T, 0, none⟩), .agg (O j).cells.toArray] wr fun x w' => x = .returned (.bool true) ∧ Np wr F T B w') := hide (noted_any KN.out (O j).kd (O j).t (O j).e (O j).n (O j).m (O j).q (O j).g (O j).pc (O j).on)
    clear hcl
    generalize hoj : O j = o at *
    clear hoj
    go_wp2_with (refine loadOp o ?lw _ rfl (ad.add (j * 18)) ?lx HCl.out ?_; rotate_left 2)
    try (case lw => rfl)
    try (case lx => rfl)
    refine HNo.out.mono ?_
    rintro x2 w2 ⟨rfl, rs', last', F', hN2, hX⟩
    obtain ⟨hm, hf⟩ := hX
    have HN2 := hide hN2
    have KF2 : Hid (∀ b, F' b → w.heap.size ≤ b) := hide (fun b hb => by
      rcases hf b (.inr hb) with (e9 | e9) | e9
      · rw [e9]; exact HBl.out
      · exact KF.out b e9
      · exact Nat.le_trans KB.out.size e9)
    have KB2 : Hid (Below w.heap.size w w2) := hide ⟨hm.os.trans KB.out.os, hm.tape.trans KB.out.tape, hm.output.trans KB.out.output, Nat.le_trans KB.out.size hm.size, fun b hb => (hm.block b (Nat.lt_of_lt_of_le hb KB.out.size) (fun e9 => by
      rcases e9 with e9 | e9
      · have := HBl.out; omega
      · have := KF.out b e9; omega)).trans (KB.out.block b hb)⟩
    clear hN2 hm hf HNo HCl KN KF KB
    go_upto_region 11 with fail
    go_loopw [7] (fun x wq => ∃ e : Nat, e ≤ 16 ∧ x = .int .i64 (e : Int) ∧ Hid (Below w2.heap.size w2 wq)) (fun x _ => 16 - (intOf x).toNat)
    case atStart => exact ⟨0, by omega, rfl, Below.refl _ _⟩
    case round =>
    obtain ⟨e, he, rfl, KQ⟩ := hrel
    by_cases h16 : e < 16
    · have hd2 : decide ((e : Int) < 16) = true := by simp; omega
      have he3 : (e : Int) < 16 := by omega
      have HNe := hide (HN2.out.below KQ.out)
      obtain ⟨ce, fe⟩ := HNe.out.bq.cell h16
      cases hv : lvb rs' e
      · rw [hv] at ce
        clear HNe hv
        go_wp2
        go_roundw
        case rel =>
          first
            | exact ⟨e + 1, by omega, by go_num, KQ⟩
            | ((repeat apply Exists.intro); refine ⟨?_, rfl⟩; exact ⟨e + 1, by omega, by go_num, KQ⟩)
        case measure => simp [intOf]; omega
      · rw [hv] at ce
        obtain ⟨r, hr⟩ := lvb_some hv
        have HA := hide (adds_any HNe.out e r hr)
        clear HNe hv hr
        go_wp2_with fail
        refine HA.out.mono ?_
        rintro x3 w3 ⟨rfl, hb3⟩
        have K1 := hide (KQ.out.trans (hb3.mono KQ.out.size))
        clear hb3 HA KQ ce fe
        go_wp2
        go_roundw
        case rel =>
          first
            | exact ⟨e + 1, by omega, by go_num, K1⟩
            | ((repeat apply Exists.intro); refine ⟨?_, rfl⟩; exact ⟨e + 1, by omega, by go_num, K1⟩)
        case measure => simp [intOf]; omega
    · obtain rfl : e = 16 := by omega
      have HN3 := hide (HN2.out.below KQ.out)
      have KB3 := hide (KB2.out.trans (KQ.out.mono KB2.out.size))
      clear HN2 KB2 KQ
      go_wp2
      go_roundw
      case rel =>
        first
          | exact ⟨j + 1, by omega, by go_num, rs', last', F', HN3, KF2, KB3⟩
          | ((repeat apply Exists.intro); refine ⟨?_, rfl⟩; exact ⟨j + 1, by omega, by go_num, rs', last', F', HN3, KF2, KB3⟩)
      case measure => simp [intOf]; omega
  · obtain rfl : j = len := by omega
    have hd : decide ((j : Int) < (j : Int)) = false := by simp
    clear KN KF
    go_wp2
    go_ret
    exact ⟨by simp, KB.out⟩
end Go.Proofs.Ytoddadohmnaolaa
