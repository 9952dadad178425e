import Derived.Test.YtogpgchfaalikaaSK
namespace Go.Proofs.Ytogpgchfaalikaa
open Go.RowKit

/-- a row of bytes of which the ones from k on are b -/
def XnA (v : Value) (L k b : Nat) : Asn := fun W H => ∃ xs : List Value, W.ownsRow 0 5 1 v L xs ∧ (∀ j, k ≤ j → j < L → xs[j]? = some (By b)) ∧ ∀ c, H c ↔ v.ownBlock = some c
theorem good_xn (v : Value) (L k b : Nat) : Good (XnA v L k b) := by
  refine ⟨?_, ?_⟩
  · rintro W H ⟨xs, h, _, he⟩ b hb; exact ownsRow_lt h ((he b).1 hb)
  · rintro W W' H ⟨xs, h, hx, he⟩ _ hk; exact ⟨xs, ownsRow_keep h (fun b hb => hk b ((he b).2 hb)), hx, he⟩
section
variable {w wr : World} {R : Asn} {g cap L k b : Nat}
theorem Sys.setX (h : Sys w wr (star (XnA (.slice (some ⟨g, 0, none⟩) L cap) L k b) R)) (hR : Good R) (u : Value) : Sys w (wr.setCell ⟨g, k, none⟩ u) (star (XnA (.slice (some ⟨g, 0, none⟩) L cap) L (k + 1) b) R) := by
  obtain ⟨F, ⟨xs, hX, hx, hF⟩, hl, hk⟩ := h.call hR
  refine hk _ F _ ⟨xs.set k u, ?_, fun j h1 h2 => by rw [List.getElem?_set_ne (by omega)]; exact hx j (by omega) h2, hF⟩ ⟨(Mod.refl _ _).setCell (.inl ((hF g).2 rfl)) _, fun _ h => .inl h⟩
  obtain ⟨hl, ⟨h0, _⟩ | ⟨g', cap', cur, hv', hb', hg', hn', hm', hs', ht'⟩⟩ := hX
  · cases h0
  · cases hv'
    refine ⟨by simpa using hl, .inr ⟨g, cap, cur.setIfInBounds k u, rfl, hb', heap_setCell_same _ _ _ _ _ _ hg', hn', hm', by simpa using hs', ?_⟩⟩
    rw [Array.toList_setIfInBounds, List.take_set, ht']
theorem Sys.cellX (h : Sys w wr (star (XnA (.slice (some ⟨g, 0, none⟩) L cap) L k b) R)) (hi : k < L) : wr.cell? ⟨g, k, none⟩ = some (.int .u8 (b : Int)) ∧ wr.frozen? ⟨g, k, none⟩ = false := by
  obtain ⟨F, ⟨xs, hX, hx, hF⟩, _⟩ := h.first
  have hX' := hX
  obtain ⟨hl, ⟨h0, _⟩ | ⟨g', cap', cur, hv', hb', hg', hn', hm', hs', ht'⟩⟩ := hX
  · cases h0
  · cases hv'
    refine ⟨?_, frozen_of_row _ _ _ _ _ hg'⟩
    have := World.ownsRow.cells hX' rfl k _ (hx k (Nat.le_refl _) hi)
    rw [add0] at this
    exact this
theorem Sys.someX {v : Value} (h : Sys w wr (star (XnA v L k b) R)) (hi : k < L) : ∃ g cap, v = .slice (some ⟨g, 0, none⟩) L cap := by
  obtain ⟨F, ⟨xs, hX, hx, hF⟩, _⟩ := h.first
  obtain ⟨hl, ⟨_, h0⟩ | ⟨g', cap', cur, hv', _⟩⟩ := hX
  · omega
  · exact ⟨g', cap', hv'⟩
theorem Sys.toX {v : Value} (h : Sys w wr (star (OwA v (List.replicate L b)) R)) : Sys w wr (star (XnA v L 0 b) R) := by
  refine h.mono ?_
  rintro W H ⟨H1, H2, h1, h2, h3, h4⟩
  refine ⟨H1, H2, ⟨_, by have := h1.1; unfold Ow at this; rw [List.length_replicate] at this; exact this, fun j _ hj => by simp [hj], h1.2⟩, h2, h3, h4⟩
theorem Sys.oprow {X A1 A2 A3 : Asn} {Q : Asn} {xs : Array Value} (h : Sys w wr (star X (star A1 (star A2 (star A3 (star (OpA g xs) Q)))))) : wr.heap[g]? = some (.cells xs 73 (0, 0)) := by
  obtain ⟨F, ⟨h, _⟩, _⟩ := Sys.first (h.drop.mono (fun _ _ => star_out))
  exact h
theorem op_cells {xs : List Value} (h : wr.heap[g]? = some (.cells xs.toArray 73 (0, 0))) : ∀ (j : Nat) (v : Value), xs[j]? = some v → wr.cell? ((⟨g, 0, none⟩ : Addr).add j) = some v := by
  intro j v hj
  rw [add0, cell_of_row _ _ _ _ _ _ h]
  simpa using hj
theorem rep_sec {L b : Nat} (hb : b < 256) (h : (List.replicate L b).length = 128) : Sec (List.replicate L b) := ⟨h, fun x hx => by rw [List.eq_of_mem_replicate hx]; exact hb⟩
end
section
variable {w w0 : World} {T K B R N M i : Nat} {C : Nat → Cl} {D : Dsk} {Q : Asn}
set_option maxRecDepth 100000 in
set_option maxHeartbeats 3200000 in
theorem played_write (h : Sys w0 w (Qd T K B R C D N M Q)) (hQ : Good Q) (bd : Bd i C D N M) (hi : i ≤ 2000000) (n sec se ln : Int) (two : Bool) (b : Nat) (kv : Value) (hb : b < 256) : Calls Try.prog 32 #[tp T, dp B, tp K, .agg #[.int .i64 6, .bool two, .int .i64 n, .int .i64 sec, .int .i64 se, .int .u8 (b : Int), .int .i64 ln, kv]] w fun e w' => e = .returned (.bool true) ∧ Sys w0 w' (Qd T K B R C (wtD C D n sec (List.replicate (ln % 256).toNat b)) N M Q) := by
  have HS := hide (h.enter hQ #[.int .i64 6, .bool two, .int .i64 n, .int .i64 sec, .int .i64 se, .int .u8 (b : Int), .int .i64 ln, kv])
  have HG := hide ((good_op w.heap.size #[.int .i64 6, .bool two, .int .i64 n, .int .i64 sec, .int .i64 se, .int .u8 (b : Int), .int .i64 ln, kv]).star hQ)
  have b1 := bd.n
  have b2 := bd.m
  have b3 := bd.a
  have HBy := fun W => bytesOf_any W 6 n sec se ln two b kv
  obtain ⟨L, hL⟩ : ∃ L, (ln % 256).toNat = L := ⟨_, rfl⟩
  have hL2 : L < 256 := by omega
  rw [hL] at HBy ⊢
  have HBy := hide HBy
  clear h bd hL
  go_enter Try.func32, Try.ntmps32
  go_wp2_with fail
  refine (HBy.out _).mono ?_
  rintro e w1 ⟨v, rfl, hv, hb1⟩
  have HS1 := hide (Sys.newOw HS.out (good_qd HG.out) hv hb1)
  obtain ⟨ao, cp, rfl⟩ := own_shape hv
  rw [List.length_replicate] at HS1
  have d2 := HS1.out.drop.opc 2 _ rfl
  have d3 := HS1.out.drop.opc 3 _ rfl
  clear hv hb1 HS
  go_wp2_with fail
  obtain ⟨F, G, hd, ho, hdis, _, hk⟩ := (Sys.third HS1.out).call2 (good_ow _ _) (good_pr.star ((good_rk R D M).star HG.out))
  refine (writeE_two HS1.out.drop.tabs.1 hd n sec 0 _ _ ho.1 (rep_sec hb) (fun b e1 e2 => hdis b e2 ((ho.2 b).2 e1)) (by omega) (by omega)).mono ?_
  rintro e w2 ⟨rfl, F', h1, h2⟩
  have HS2 := hide (hk w2 F' _ h1 h2).back2
  clear hk h1 h2 hd ho hdis HS1 d2 d3
  have HC : Hid (∀ (j : Nat) (v : Value), [.int .i64 6, .bool two, .int .i64 n, .int .i64 sec, .int .i64 se, .int .u8 (b : Int), .int .i64 ln, kv][j]? = some v → w2.cell? ((⟨w.heap.size, 0, none⟩ : Addr).add j) = some v) := hide (op_cells HS2.out.oprow)
  go_wp2_with (refine loadT Try.underlying73 rfl [.int .i64 6, .bool two, .int .i64 n, .int .i64 sec, .int .i64 se, .int .u8 (b : Int), .int .i64 ln, kv] (by kernel_rfl) rfl _ rfl ⟨w.heap.size, 0, none⟩ rfl HC.out ?_)
  refine (HBy.out _).mono ?_
  rintro e w3 ⟨v2, rfl, hv2, hb3⟩
  have HS3 := hide (HS2.out.below ((good_ow _ _).star (good_pr.star ((good_dk B _).star ((good_rk R D M).star HG.out)))) hb3)
  obtain ⟨F, hX, _⟩ := HS3.out.first
  have HSm := hide (same_eq _ _ _ _ hX.1.rd hv2.rd)
  clear hX hv2 hb3 HS2 HC
  go_wp2_with fail
  refine HSm.out.mono ?_
  rintro e w9 ⟨rfl, rfl⟩
  have HX := hide (HS3.out.toX)
  clear HS3 HSm
  go_upto_region 18 with fail
  go_loopw [15] (fun x wx => ∃ k : Nat, k ≤ L ∧ x = .int .i64 (k : Int) ∧ Hid (Sys w0 wx (star (XnA (.slice ao L cp) L k b) (star (PrA T B K R C N) (star (DkA B (wtD C D n sec (List.replicate L b))) (star (RkA R D M) (star (OpA w.heap.size #[.int .i64 6, .bool two, .int .i64 n, .int .i64 sec, .int .i64 se, .int .u8 (b : Int), .int .i64 ln, kv]) Q))))))) (fun x _ => L - (intOf x).toNat)
  case atStart => exact ⟨0, by omega, rfl, HX⟩
  case round =>
  clear HX
  obtain ⟨k, hk, rfl, KK⟩ := hrel
  by_cases hlt : k < L
  · have hd : decide ((k : Int) < (L : Int)) = true := by simp; omega
    have hk3 : (k : Int) < (L : Int) := by omega
    obtain ⟨g, cap, hg⟩ := KK.out.someX hlt
    injection hg with hg1 _ hg2
    subst hg1 hg2
    obtain ⟨c1, f1⟩ := KK.out.cellX hlt
    have HN := hide (fun u => KK.out.setX (good_pr.star ((good_dk B _).star ((good_rk R D M).star HG.out))) u)
    clear KK
    go_upto_region 19 with fail
    generalize Value.int IntKind.u8 (bits BinOp.xor IntKind.u8 _ _) = vv at *
    have HN2 := hide (HN.out vv)
    clear HN c1 f1
    generalize wr.setCell ⟨g, k, none⟩ vv = wz at *
    go_wp2
    go_roundw
    case rel =>
      first
        | exact ⟨k + 1, by omega, by go_num, HN2⟩
        | ((repeat apply Exists.intro); refine ⟨?_, rfl⟩; exact ⟨k + 1, by omega, by go_num, HN2⟩)
    case measure => simp [intOf]; omega
  · obtain rfl : k = L := by omega
    have hd : decide ((k : Int) < (k : Int)) = false := by simp
    obtain ⟨w4, hw4⟩ : ∃ w4, w4 = wr.drew := ⟨_, rfl⟩
    have hdr : Below wr.heap.size wr w4 := by rw [hw4]; exact ⟨rfl, rfl, rfl, Nat.le_refl _, fun _ _ => rfl⟩
    have HS4 := hide (KK.out.drop.below (good_pr.star ((good_dk B _).star ((good_rk R D M).star HG.out))) hdr)
    have HRow := hide (Sys.oprow (KK.out.below ((good_xn _ _ _ _).star (good_pr.star ((good_dk B _).star ((good_rk R D M).star HG.out)))) hdr))
    clear KK hdr
    go_upto_region 21 with fail
    refine wp_region_held_drew (S := fun W => W.heap[w.heap.size]? = some (.cells #[.int .i64 6, .bool two, .int .i64 n, .int .i64 sec, .int .i64 se, .int .u8 (b : Int), .int .i64 ln, kv] 73 (0, 0))) (by kernel_rfl) (by rw [← hw4]; exact HRow.out) (fun _ => ?_)
    rw [← hw4]
    clear hw4
    refine hd_take 0 (o := ⟨some 98, _, _, _, _, _⟩) (tp K) (by kernel_rfl) (by kernel_rfl) (by kernel_rfl) rfl (by rfl) (fun W hSw => by go_simp) (fun _ _ _ h => h) HRow.out ?_
    try simp only [Act.put, List.setIfInBounds_toArray, List.set_cons_zero, List.set_cons_succ]
    refine hd_take 1 (o := ⟨some 99, _, _, _, _, _⟩) (.pointer (some ⟨w.heap.size, 2, none⟩)) (by kernel_rfl) (by kernel_rfl) (by kernel_rfl) rfl (by rfl) (fun W hSw => by go_simp) (fun _ _ _ h => h) HRow.out ?_
    try simp only [Act.put, List.setIfInBounds_toArray, List.set_cons_zero, List.set_cons_succ]
    refine hd_take 2 (o := ⟨some 100, _, _, _, _, _⟩) (.int .i64 n) (by kernel_rfl) (by kernel_rfl) (by kernel_rfl) rfl (by rfl) (fun W hSw => by
      have q2 : W.cell? ⟨w.heap.size, 2, none⟩ = some (.int .i64 n) := by rw [cell_of_row _ _ _ _ _ _ hSw]; rfl
      have q3 : W.cell? ⟨w.heap.size, 3, none⟩ = some (.int .i64 sec) := by rw [cell_of_row _ _ _ _ _ _ hSw]; rfl
      go_simp) (fun _ _ _ h => h) HRow.out ?_
    try simp only [Act.put, List.setIfInBounds_toArray, List.set_cons_zero, List.set_cons_succ]
    refine hd_take 3 (o := ⟨some 101, _, _, _, _, _⟩) (.pointer (some ⟨w.heap.size, 3, none⟩)) (by kernel_rfl) (by kernel_rfl) (by kernel_rfl) rfl (by rfl) (fun W hSw => by go_simp) (fun _ _ _ h => h) HRow.out ?_
    try simp only [Act.put, List.setIfInBounds_toArray, List.set_cons_zero, List.set_cons_succ]
    refine hd_take 4 (o := ⟨some 102, _, _, _, _, _⟩) (.int .i64 sec) (by kernel_rfl) (by kernel_rfl) (by kernel_rfl) rfl (by rfl) (fun W hSw => by
      have q2 : W.cell? ⟨w.heap.size, 2, none⟩ = some (.int .i64 n) := by rw [cell_of_row _ _ _ _ _ _ hSw]; rfl
      have q3 : W.cell? ⟨w.heap.size, 3, none⟩ = some (.int .i64 sec) := by rw [cell_of_row _ _ _ _ _ _ hSw]; rfl
      go_simp) (fun _ _ _ h => h) HRow.out ?_
    try simp only [Act.put, List.setIfInBounds_toArray, List.set_cons_zero, List.set_cons_succ]
    refine hd_take 5 (o := ⟨some 103, _, _, _, _, _⟩) (.agg #[.int .i64 6, .bool two, .int .i64 n, .int .i64 sec, .int .i64 se, .int .u8 (b : Int), .int .i64 ln, kv]) (by kernel_rfl) (by kernel_rfl) (by kernel_rfl) rfl (by rfl) (fun W hSw => loadT_run Try.underlying73 rfl [.int .i64 6, .bool two, .int .i64 n, .int .i64 sec, .int .i64 se, .int .u8 (b : Int), .int .i64 ln, kv] (by kernel_rfl) _ _ rfl ⟨w.heap.size, 0, none⟩ rfl (op_cells hSw)) (fun _ _ _ h => h) HRow.out ?_
    try simp only [Act.put, List.setIfInBounds_toArray, List.set_cons_zero, List.set_cons_succ]
    refine hd_call 6 (o := ⟨some 104, _, _, _, _, _⟩) (by kernel_rfl) rfl (by rfl) (fun K' hK => ?_)
    go_simp
    go_wp2_with (go_at_call 42; refine (HBy.out _).mono ?_; rintro e1 w5 ⟨v3, rfl, hv3, hb5⟩)
    have HS5 := hide (HS4.out.below (good_pr.star ((good_dk B _).star ((good_rk R D M).star HG.out))) hb5)
    have HF5 : Hid (∃ F, RkA R D M w5 F ∧ (∀ b, v3.ownBlock = some b → ¬ F b) ∧ ∀ w' F' D' M', RkA R D' M' w' F' → Ext F w5 F' w' → Sys w0 w' (star (PrA T B K R C N) (star (DkA B (wtD C D n sec (List.replicate k b))) (star (RkA R D' M') (star (OpA w.heap.size #[.int .i64 6, .bool two, .int .i64 n, .int .i64 sec, .int .i64 se, .int .u8 (b : Int), .int .i64 ln, kv]) Q))))) := by
      obtain ⟨F, hd, _, hk⟩ := HS4.out.callR good_pr (good_dk _ _) HG.out
      have hlt := (good_rk R D M).lt hd
      exact hide ⟨F, (good_rk R D M).below hd hb5, fun b e1 e2 => by have := (World.ownsRow.lt hv3 b e1).1; have := hlt b e2; omega, fun w' F' D' M' h1 h2 => hk w' F' D' M' h1 ((Ext.of_below (F := F) hb5).trans h2)⟩
    have HR5 : Hid (w5.heap[w.heap.size]? = some (.cells #[.int .i64 6, .bool two, .int .i64 n, .int .i64 sec, .int .i64 se, .int .u8 (b : Int), .int .i64 ln, kv] 73 (0, 0))) := by
      obtain ⟨F, ⟨h9, _⟩, _⟩ := Sys.first (HS5.out.mono (fun _ _ => star_out))
      exact hide h9
    have HV := hide hv3
    clear hv3 hb5 HS4 HRow
    refine hK _ _ HR5.out ?_
    clear hK K'
    try simp only [Act.put, List.setIfInBounds_toArray, List.set_cons_zero, List.set_cons_succ]
    refine hd_call 7 (o := ⟨some 105, _, _, _, _, _⟩) (by kernel_rfl) rfl (by rfl) (fun K' hK => ?_)
    go_simp
    obtain ⟨F, hd9, hnF, hk9⟩ := HF5.out
    obtain ⟨F9, ht⟩ := HS5.out.tabs.2
    go_wp2_with (go_at_call 43; refine (writeK_two ht (by omega) hd9 n sec _ v3 _ HV.out (rep_sec hb) hnF (by omega) (by omega)).mono ?_; rintro e1 w6 ⟨rfl, F', h1, h2⟩)
    have HS6 := hide (hk9 w6 F' _ _ h1 h2)
    clear hk9 h1 h2 hd9 hnF ht HS5 HF5 HR5
    have HR6 : Hid (w6.heap[w.heap.size]? = some (.cells #[.int .i64 6, .bool two, .int .i64 n, .int .i64 sec, .int .i64 se, .int .u8 (b : Int), .int .i64 ln, kv] 73 (0, 0))) := by
      obtain ⟨F, ⟨h9, _⟩, _⟩ := Sys.first (HS6.out.mono (fun _ _ => star_out))
      exact hide h9
    refine hK _ _ HR6.out ?_
    clear hK K'
    try simp only [Act.put, List.setIfInBounds_toArray, List.set_cons_zero, List.set_cons_succ]
    refine hd_take 8 (o := ⟨some 16, _, _, _, _, _⟩) (.int .i64 (wtr C D n sec (List.replicate k b))) (by kernel_rfl) (by kernel_rfl) (by kernel_rfl) rfl (by rfl) (fun W hSw => by go_simp) (fun _ _ _ h => h) HR6.out ?_
    try simp only [Act.put, List.setIfInBounds_toArray, List.set_cons_zero, List.set_cons_succ]
    refine wpAnyH_done (by kernel_rfl) ?_ _
    clear HR6
    go_wp2
    go_ret
    exact ⟨by simp, Sys.leave HS6.out⟩
end
end Go.Proofs.Ytogpgchfaalikaa
