import Derived.Test.YteacmcdmdeckmaaGreatX4
namespace Go.Proofs.YteacmcdmdeckmaaGreat
open Go.RowKit Go.Shelf

/-- the places of a list -/
def plc (i : Nat) (xs : List (Nat × Rc)) : List (Nat × Nat) := xs.map (fun x => (i, x.1))
theorem plc_fresh {i : Nat} {l : Lst} {k : Nat} (hk : k < (prs l 0).length) : (i, (prs l 0)[k].1) ∉ plc i ((prs l 0).take k) := by
  intro h
  obtain ⟨x, hx, e⟩ := List.mem_map.1 h
  have hs : ((prs l 0).take k ++ (prs l 0).drop k).Pairwise (fun a b => a.1 < b.1) := by rw [List.take_append_drop]; exact prsL_sorted _ 0
  have hd : (prs l 0)[k] ∈ (prs l 0).drop k := by rw [List.drop_eq_getElem_cons hk]; exact List.mem_cons_self
  have := (List.pairwise_append.1 hs).2.2 x hx _ hd
  simp at e
  omega
set_option maxRecDepth 8000 in
set_option maxHeartbeats 8000000 in
theorem shut_some (w : World) (F : Nat → Prop) (B : Nat) (bk : List (Option Lst)) (h : Book w F B bk) (i : Nat) (l : Lst) (hl : bk[i]? = some (some l)) :
    Calls Tryz.prog 51 #[.pointer (some ⟨B, 0, none⟩), .int .i64 (i : Int)] w fun x w' => ∃ v bk', x = .returned (.tuple #[v, .int .i64 0]) ∧ w'.ownsRow w.heap.size 78 6 v (prs l 0).length (encHs (i : Int) (prs l 0)) ∧ Book w' F B (bk'.set i none) ∧ Ext F w F w' ∧ Drops (plc i (prs l 0)) bk bk' := by
  have HL : Hid (Calls Tryz.prog 15 #[.pointer (some ⟨B, 0, none⟩), .int .i64 (i : Int)] w fun e W' => ∃ v, e = .returned (.tuple #[v, .int .i64 0]) ∧ W'.ownsRow w.heap.size 78 6 v (prs l 0).length (encHs (i : Int) (prs l 0)) ∧ Below w.heap.size w W') := by
    obtain ⟨T, G, m, fs, h⟩ := h
    exact hide ((callsIn_wide (n := 3)).1 (list_in 3 (Nat.le_refl _) F B T G m fs bk w h i l hl))
  have HBk := hide h
  have HO := hide hl
  have HFl := hide h.lt
  have hn48 : (prs l 0).length ≤ 48 := by rw [prs_len, ← h.l48 hl]; exact count_le
  clear h hl
  go_enter Tryz.func51, Tryz.ntmps51
  go_wp2_with fail
  refine HL.out.mono ?_
  rintro e1 w1 ⟨v1, rfl, hrow, hb1⟩
  obtain ⟨a1, c1, rfl⟩ := own_shape hrow
  have HRow := hide hrow
  have HB1 := hide (HBk.out.below hb1)
  have HE1 := hide (Ext.of_below (F := F) hb1)
  clear hrow hb1 HL
  generalize hpn : (prs l 0).length = pn at *
  replace hpn := hide hpn
  go_wp2_with fail
  go_loopw [21] (fun x wr => ∃ (k : Nat) (bk' : List (Option Lst)), k ≤ pn ∧ x = .int .i64 (k : Int) ∧ Hid (Book wr F B bk') ∧ Hid (Ext F w1 F wr) ∧ Hid (Drops (plc i ((prs l 0).take k)) bk bk')) (fun x _ => pn - (intOf x).toNat)
  case atStart => exact ⟨0, bk, by omega, rfl, HB1, Ext.refl _ _, Drops.nil _⟩
  case round =>
  obtain ⟨k, bk', hk, rfl, K1, K2, K3⟩ := hrel
  by_cases hlt : k < pn
  · have hlt' : k < (prs l 0).length := by rw [hpn.out]; exact hlt
    obtain ⟨⟨s, r⟩, hx⟩ : ∃ x, x = (prs l 0)[k] := ⟨_, rfl⟩
    have hls : l[s]? = some (some r) := prs_mem.1 (by rw [hx]; exact List.getElem_mem hlt')
    have hfr := plc_fresh (i := i) hlt'
    rw [← hx] at hfr
    obtain ⟨r', hr'⟩ : ∃ r', atB bk' (i : Int) (s : Int) = some r' := by
      refine Option.isSome_iff_exists.1 ?_
      rw [K3.out.here.2, atN_eq HO.out, hls]
      simp [hfr]
    obtain ⟨gq, rfl, hcq⟩ : ∃ gq, a1 = some ⟨gq, 0, none⟩ ∧ ∀ j, j < 6 → wr.cell? ⟨gq, k * 6 + j, none⟩ = (encH (i : Int) (s, r))[j]? := by
      obtain ⟨_, ⟨h0, h00⟩ | ⟨g0, cap, cur, hv0, hgb, hg0, _⟩⟩ := HRow.out
      · omega
      · cases hv0
        have hw := own_ext K2.out HFl.out HRow.out
        refine ⟨g0, rfl, fun j hj => ?_⟩
        rw [hw.cellAt (k * 6 + j) (by omega), encHs_at hlt' j hj, hx]
    have HT : Hid (plc i ((prs l 0).take (k + 1)) = plc i ((prs l 0).take k) ++ [(i, s)]) := by
      refine hide ?_
      unfold plc
      rw [List.take_add_one, List.getElem?_eq_getElem hlt', ← hx, List.map_append]; rfl
    have q0 : wr.cell? ⟨gq, k * 6, none⟩ = some (.int .i64 (i : Int)) := hcq 0 (by omega)
    have q1 : wr.cell? ⟨gq, k * 6 + 1, none⟩ = some (.int .i64 (s : Int)) := hcq 1 (by omega)
    have q2 : wr.cell? ⟨gq, k * 6 + 2, none⟩ = some (.int .i64 r.k) := hcq 2 (by omega)
    have q3 : wr.cell? ⟨gq, k * 6 + 3, none⟩ = some (.int .i64 r.o) := hcq 3 (by omega)
    have q4 : wr.cell? ⟨gq, k * 6 + 4, none⟩ = some (.int .i64 r.s) := hcq 4 (by omega)
    have q5 : wr.cell? ⟨gq, k * 6 + 5, none⟩ = some (.int .i64 r.r) := hcq 5 (by omega)
    have hkl : (k : Int) < (pn : Int) := by omega
    have hwk : k * 6 + 5 < pn * 6 := by omega
    have HR := hide hr'
    clear hcq hx hls hfr hr' hlt'
    go_upto_region 7 with fail
    have hb6 := (Below.refl wr.heap.size wr).alloc (Nat.le_refl _) (.cells #[.int .i64 (i : Int), .int .i64 (s : Int), .int .i64 r.k, .int .i64 r.o, .int .i64 r.s, .int .i64 r.r] 78)
    have hN6 := heap_alloc_new wr (.cells #[.int .i64 (i : Int), .int .i64 (s : Int), .int .i64 r.k, .int .i64 r.o, .int .i64 r.s, .int .i64 r.r] 78)
    generalize wr.alloc (.cells #[.int .i64 (i : Int), .int .i64 (s : Int), .int .i64 r.k, .int .i64 r.o, .int .i64 r.s, .int .i64 r.r] 78) = w6 at *
    obtain ⟨d0, d1, -, -, -, -, -, -, -, -, -, -⟩ := blk6 hN6
    have HB6 := hide (K1.out.below hb6)
    have HE6 := hide (K2.out.trans (Ext.of_below hb6))
    clear hb6 hN6 q0 q1 q2 q3 q4 q5
    go_wp2_with fail
    refine (drop_any w6 F B bk' HB6.out i s r' HR.out).mono ?_
    rintro e2 w7 ⟨rfl, bk2, hB7, hE7, hD7⟩
    have L1 := hide hB7
    have L2 := hide (HE6.out.trans hE7)
    have L3 : Hid (Drops (plc i ((prs l 0).take (k + 1))) bk bk2) := by
      refine hide ?_
      rw [HT.out]
      exact Drops.snoc K3.out HR.out hD7
    clear hB7 hE7 hD7 d0 d1
    go_wp2
    go_roundw
    case rel =>
      first
        | exact ⟨k + 1, _, by omega, by go_num, L1, L2, L3⟩
        | ((repeat apply Exists.intro); refine ⟨?_, rfl⟩; exact ⟨k + 1, _, by omega, by go_num, L1, L2, L3⟩)
    case measure => simp [intOf]; omega
  · have hd : decide ((k : Int) < (pn : Int)) = false := by simp; omega
    have hd2 : decide (k < pn) = false := by simp; omega
    have K4 : Hid (Drops (plc i (prs l 0)) bk bk') := by
      have e : k = (prs l 0).length := by have := hpn.out; omega
      have h9 := K3.out
      rw [e, List.take_length] at h9
      exact hide h9
    obtain ⟨l', hl'⟩ := shape_open K4.out.here.1 HO.out
    obtain ⟨T, G, m, fs, hA⟩ := K1.out
    obtain ⟨b, hm, hlm, h48, hTl⟩ := hA.open' hl'
    have c0 := hA.cell
    have HD := hide (dropL_some wr G T m hA.tab i b hm)
    have HA := hide hA
    have hil : i < m.length := (List.getElem?_eq_some_iff.1 hm).1
    clear hA hm hlm h48 hTl hl'
    go_wp2_with fail
    refine HD.out.mono ?_
    rintro e2 w7 ⟨rfl, hT7, hE7⟩
    have L1 := hide (HA.out.sht hil hT7 hE7)
    clear hT7 hE7 c0
    go_wp2
    go_ret2
    refine ⟨_, bk', rfl, ?_, ⟨_, _, _, _, L1.out.1⟩, HE1.out.trans (K2.out.trans L1.out.2), K4.out⟩
    have h9 := own_ext (K2.out.trans L1.out.2) HFl.out HRow.out
    rw [hpn.out]
    exact h9
end Go.Proofs.YteacmcdmdeckmaaGreat
