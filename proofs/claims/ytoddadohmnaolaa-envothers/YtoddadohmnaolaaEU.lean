import Derived.Test.YtoddadohmnaolaaET
namespace Go.Proofs.Ytoddadohmnaolaa
open Go.RowKit Go.Shelf

section
variable (w : World) (F : Nat → Prop) (T : Nat) (rs : List (Option Er)) (last : Int)
set_option maxRecDepth 100000 in
set_option maxHeartbeats 6400000 in
theorem destroyOk_any (h : Et w F T rs last) (k p : Nat) (r rp : Er) (hr : rs[k]? = some (some r)) (hk0 : k ≠ 0) (hpa : r.pa = (p : Int)) (hp : rs[p]? = some (some rp)) (hkp : p ≠ k) (hq : r.qu.ok) (hq1 : (r.qu.plus Qt.one).ok) (hle : rp.le.ok)
    (rs1 : List (Option Er)) (hrs1 : rs1 = rs.set p (some { rp with le := rp.le.plus (r.qu.plus Qt.one) })) (hD : Dis rs1) (hlen : ∀ n e, (wk rs1 n e).length ≤ 4096) (hkl : ∀ e, (kids rs1 e).length ≤ 4096) (n : Nat) (hDp : Dp rs1 n k) (hnd : (wk rs1 n k).Nodup) (hlv : ∀ c ∈ wk rs1 n k, Lv rs1 c) :
    Calls Try.prog 19 #[.pointer (some ⟨T, 0, none⟩), .int .i64 (k : Int)] w fun x w' => ∃ v, x = .returned (.tuple #[v, .int .i64 0]) ∧ Et w' F T (drops rs1 (wk rs1 n k)) last ∧ w'.ownsRow w.heap.size 3 1 v (wk rs1 n k).length (numN (wk rs1 n k)) ∧ Mod F w w' := by
  have hFl := h.lt
  obtain ⟨S, G, m, h⟩ := h
  rcases h.cases (k : Int) with ⟨_, h1⟩ | ⟨k', bk, r', e1, hmk, h3, h4, h5, hRk⟩
  · rw [look_nat, hr] at h1; cases h1
  obtain rfl : k = k' := by omega
  rw [hr] at h3; cases h3
  rcases h.cases (p : Int) with ⟨_, h1⟩ | ⟨k', bp, r', e2, hmp, h3, h6, h7, hRp⟩
  · rw [look_nat, hp] at h1; cases h1
  obtain rfl : p = k' := by omega
  rw [hp] at h3; cases h3
  have hbb : bk ≠ bp := fun e => hkp (h.dis p k bp hmp (e ▸ hmk))
  have c0 := h.cell.1
  have cp := hRk.get (j := 1) rfl
  rw [hpa] at cp
  have HG1 := hide (getL_any _ G S m h.tab (k : Int))
  rw [h4] at HG1
  simp only [ptr, Option.isSome_some] at HG1
  have HG2 : Hid (∀ j, Calls Try.prog 32 #[.pointer (some ⟨S, 0, none⟩), .int .i64 (p : Int)] (w.drewN j) fun x w' => x = .returned (.tuple #[.pointer (some ⟨bp, 0, none⟩), .bool true]) ∧ w' = w.drewN j) := hide (fun j => by
    have h9 := getL_any (w.drewN j) G S m (h.tab.keep (Nat.le_refl _) (fun _ _ => rfl)) (p : Int)
    rw [h6] at h9
    exact h9)
  have HC1 := hide (fun W => price_any W r.qu hq)
  have HC2 := hide (fun W (hb : Rb W bp rp) => regain_any W bp rp hb (r.qu.plus Qt.one) hq1 hle)
  have HH := hide h
  have HRk := hide hRk
  have HRp := hide hRp
  have HBB := hide hbb
  have hk0' : ((k : Int) == 0) = false := by simp; omega
  have HFl := hide hFl
  have HW := hide (fun W (hE : Et W F T rs1 last) => walk_any rs1 hD hlen hkl n k W F T last hE hDp)
  have HND := hide hnd
  have HLV := hide hlv
  have HLen := hide (hlen n k)
  have HM := hide hmp
  have HX := hide hrs1
  obtain ⟨qp, hqp⟩ : ∃ qp, r.qu.plus Qt.one = qp := ⟨_, rfl⟩
  rw [hqp] at HC1 HC2 HX
  clear h h4 h5 h6 h7 hRk hRp hbb hFl hD hlen hkl hDp hnd hlv hq hq1 hle hmk hmp hr hp hrs1 hqp
  go_enter Try.func19, Try.ntmps19
  go_wp2_with fail
  refine HG1.out.mono ?_
  rintro e1 w1 ⟨rfl, rfl⟩
  go_upto_region 6 with fail
  go_quiet (first | (go_at_call 32; exact Calls.quiet_of_same (HG2.out _)))
  go_upto_region 7 with fail
  obtain ⟨w2, hw2⟩ : ∃ w2, w2 = (w1.drewN nq).drew := ⟨_, rfl⟩
  have hb2 : Below w1.heap.size w1 w2 := by rw [hw2]; exact ⟨rfl, rfl, rfl, Nat.le_refl _, fun _ _ => rfl⟩
  have HH2 := hide (HH.out.below hb2)
  have HR2 := hide (HRk.out.keep (hb2.block bk HRk.out.lt))
  have HP2 := hide (HRp.out.keep (hb2.block bp HRp.out.lt))
  have HM2 : Hid (Mod F w1 w2) := hide (Mod.of_below hb2)
  clear HH HRk HRp HG1 HG2 c0 cp
  refine wp_region_held_drew (S := fun W => Rb W bk r) (by kernel_rfl) (by rw [← hw2]; exact HR2.out) (fun _ => ?_)
  rw [← hw2]
  clear hw2 hb2
  refine hd_take 0 (o := ⟨some 39, _, _, _, _, _⟩) (.pointer (some ⟨bp, 0, none⟩)) (by kernel_rfl) (by kernel_rfl) (by kernel_rfl) rfl (by rfl) (fun W hSw => by go_simp) (fun _ _ _ h => h) HR2.out ?_
  try simp only [Act.put, List.setIfInBounds_toArray, List.set_cons_zero, List.set_cons_succ]
  refine hd_take 1 (o := ⟨some 40, _, _, _, _, _⟩) (.pointer (some ⟨bp, 0, none⟩)) (by kernel_rfl) (by kernel_rfl) (by kernel_rfl) rfl (by rfl) (fun W hSw => by go_simp) (fun _ _ _ h => h) HR2.out ?_
  try simp only [Act.put, List.setIfInBounds_toArray, List.set_cons_zero, List.set_cons_succ]
  refine hd_take 2 (o := ⟨some 41, _, _, _, _, _⟩) (.pointer (some ⟨bp, 21, none⟩)) (by kernel_rfl) (by kernel_rfl) (by kernel_rfl) rfl (by rfl) (fun W hSw => by go_simp) (fun _ _ _ h => h) HR2.out ?_
  try simp only [Act.put, List.setIfInBounds_toArray, List.set_cons_zero, List.set_cons_succ]
  refine hd_take 3 (o := ⟨some 42, _, _, _, _, _⟩) (.pointer (some ⟨bk, 0, none⟩)) (by kernel_rfl) (by kernel_rfl) (by kernel_rfl) rfl (by rfl) (fun W hSw => by go_simp) (fun _ _ _ h => h) HR2.out ?_
  try simp only [Act.put, List.setIfInBounds_toArray, List.set_cons_zero, List.set_cons_succ]
  refine hd_take 4 (o := ⟨some 43, _, _, _, _, _⟩) (.pointer (some ⟨bk, 0, none⟩)) (by kernel_rfl) (by kernel_rfl) (by kernel_rfl) rfl (by rfl) (fun W hSw => by go_simp) (fun _ _ _ h => h) HR2.out ?_
  try simp only [Act.put, List.setIfInBounds_toArray, List.set_cons_zero, List.set_cons_succ]
  refine hd_take 5 (o := ⟨some 44, _, _, _, _, _⟩) (.pointer (some ⟨bk, 0, none⟩)) (by kernel_rfl) (by kernel_rfl) (by kernel_rfl) rfl (by rfl) (fun W hSw => by go_simp) (fun _ _ _ h => h) HR2.out ?_
  try simp only [Act.put, List.setIfInBounds_toArray, List.set_cons_zero, List.set_cons_succ]
  refine hd_take 6 (o := ⟨some 45, _, _, _, _, _⟩) (.pointer (some ⟨bk, 15, none⟩)) (by kernel_rfl) (by kernel_rfl) (by kernel_rfl) rfl (by rfl) (fun W hSw => by go_simp) (fun _ _ _ h => h) HR2.out ?_
  try simp only [Act.put, List.setIfInBounds_toArray, List.set_cons_zero, List.set_cons_succ]
  refine hd_take 7 (o := ⟨some 46, _, _, _, _, _⟩) (.agg #[.int .i64 r.qu.f, .int .i64 r.qu.e, .int .i64 r.qu.x]) (by kernel_rfl) (by kernel_rfl) (by kernel_rfl) rfl (by rfl) (fun W hSw => by have q0 := hSw.get (j := 15) rfl; have q1 := hSw.get (j := 16) rfl; have q2 := hSw.get (j := 17) rfl; go_simp) (fun _ _ _ h => h) HR2.out ?_
  try simp only [Act.put, List.setIfInBounds_toArray, List.set_cons_zero, List.set_cons_succ]
  refine hd_call 8 (o := ⟨some 47, _, _, _, _, _⟩) (by kernel_rfl) rfl (by rfl) (fun K hK => ?_)
  go_simp
  go_wp2_with (go_at_call 44; refine (HC1.out _).mono ?_; rintro e1 w3 ⟨rfl, hb3⟩)
  have HR3 := hide (HR2.out.keep (hb3.block bk HR2.out.lt))
  have HP3 := hide (HP2.out.keep (hb3.block bp HP2.out.lt))
  have HH3 := hide (HH2.out.below hb3)
  have HM3 : Hid (Mod F w1 w3) := hide (HM2.out.trans (Mod.of_below hb3))
  clear hb3 HR2 HP2 HH2 HM2
  refine hK _ _ HR3.out ?_
  clear hK K
  try simp only [Act.put, List.setIfInBounds_toArray, List.set_cons_zero, List.set_cons_succ]
  refine hd_call 9 (o := ⟨some 48, _, _, _, _, _⟩) (by kernel_rfl) rfl (by rfl) (fun K hK => ?_)
  go_simp
  go_wp2_with (go_at_call 48; refine (HC2.out _ HP3.out).mono ?_; rintro e1 w4 ⟨rfl, hr4, ha4⟩)
  have HR4 := hide (HR3.out.keep (ha4.block bk HR3.out.lt HBB.out))
  have hu := HH3.out.upd HM.out ha4.size ha4.block hr4
  rw [← HX.out] at hu
  have HH4 := hide hu
  have HM4 : Hid (Mod F w1 w4) := hide (HM3.out.trans (ha4.mod (HH3.out.own p bp HM.out).1))
  clear hr4 ha4 hu HR3 HP3 HH3 HM3
  refine hK _ _ HR4.out ?_
  clear hK K
  try simp only [Act.put, List.setIfInBounds_toArray, List.set_cons_zero, List.set_cons_succ]
  refine wpAnyH_done (by kernel_rfl) ?_ _
  clear HR4 HC1 HC2
  go_wp2_with fail
  refine (HW.out _ ⟨S, G, m, HH4.out⟩).mono ?_
  rintro e1 w5 ⟨v, rfl, hv, hb5⟩
  have HH5 := hide (HH4.out.below hb5)
  have HM5 : Hid (Mod F w1 w5) := hide (HM4.out.trans (Mod.of_below hb5))
  have HV5 := hide (own_low hv HM4.out.size)
  obtain ⟨va, vc, rfl⟩ := own_shape hv
  clear hv hb5 HH4 HM4 HW
  generalize hl : wk rs1 n k = l at *
  obtain ⟨L, hL⟩ : ∃ L, l.length = L := ⟨_, rfl⟩
  have hL9 := HLen.out
  rw [hL] at HV5 hL9 ⊢
  have hL9 : L ≤ 4096 := hL9
  go_upto_region 10 with fail
  have K0 : Hid (∃ m', EtAt w5 F T S G m' (drops rs1 (l.take 0)) last) := hide ⟨m, HH5.out⟩
  go_loopw [54] (fun x wr => ∃ j : Nat, j ≤ L ∧ x = .int .i64 (j : Int) ∧ Hid (∃ m', EtAt wr F T S G m' (drops rs1 (l.take j)) last) ∧ Hid (wr.ownsRow w1.heap.size 3 1 (.slice va L vc) L (numN l)) ∧ Hid (Mod F w1 wr)) (fun x _ => L - (intOf x).toNat)
  case atStart => exact ⟨0, by omega, rfl, K0, HV5, HM5⟩
  case round =>
  clear K0 HV5 HM5 HH5
  obtain ⟨j, hj, rfl, KE, KV, KM⟩ := hrel
  by_cases hlt : j < L
  · have hd : decide ((j : Int) < (L : Int)) = true := by simp; omega
    have hj3 : (j : Int) < (L : Int) := by omega
    obtain ⟨m', hE⟩ := KE.out
    obtain ⟨c, hc⟩ : ∃ c, l[j]? = some c := ⟨_, List.getElem?_eq_getElem (by omega)⟩
    obtain ⟨g, rfl, hcc⟩ : ∃ g, va = some ⟨g, 0, none⟩ ∧ wr.cell? ⟨g, j, none⟩ = some (.int .i64 (c : Int)) := by
      have h9 := KV.out
      obtain ⟨_, ⟨h0, _⟩ | ⟨g, cp, cur, h0, _⟩⟩ := KV.out
      · injection h0 with _ h8 _; omega
      · cases h0
        refine ⟨g, rfl, ?_⟩
        have := World.ownsRow.cells h9 rfl j (.int .i64 (c : Int)) (by simp [numN, hc])
        rw [add0] at this
        exact this
    have htk : l.take (j + 1) = l.take j ++ [c] := by
      have h9 := (List.getElem?_eq_some_iff.1 hc)
      rw [List.take_succ_eq_append_getElem h9.1, h9.2]
    have hnm : c ∉ l.take j := by
      intro h9
      have h8 : (l.take (j + 1)).Nodup := HND.out.sublist (List.take_sublist _ _)
      rw [htk, List.nodup_append] at h8
      exact h8.2.2 c h9 c (by simp) rfl
    obtain ⟨rc, hrc⟩ := HLV.out c (List.mem_of_getElem? hc)
    have hdc : (drops rs1 (l.take j))[c]? = some (some rc) := by rw [drops_other _ _ _ hnm]; exact hrc
    have hc16 : c < 16 := by
      have h9 := (List.getElem?_eq_some_iff.1 hdc).1
      rw [hE.rlen] at h9; exact h9
    rcases hE.cases (c : Int) with ⟨_, h1⟩ | ⟨c', bc, rc', e2, hmc, h3, h6, h7, hRc⟩
    · rw [look_nat, hdc] at h1; cases h1
    obtain rfl : c = c' := by omega
    have c0 := hE.cell.1
    have HDr := hide (dropL_some wr G S m' hE.tab c bc hmc)
    have HEs := hide (fun w' (ht : Tab KL w' G S (m'.set c none)) hx => hE.shut hc16 ht hx)
    have HFG := hide hE.fG
    have hg9 : w1.heap.size ≤ g := (World.ownsRow.lt KV.out g rfl).1
    have HTk := hide htk
    clear hE h3 h6 h7 hRc hmc hdc hrc hnm htk hc KE
    go_wp2_with fail
    refine HDr.out.mono ?_
    rintro e1 w6 ⟨rfl, ht6, hx6⟩
    have K1 : Hid (∃ m', EtAt w6 F T S G m' (drops rs1 (l.take (j + 1))) last) := hide ⟨_, by
      have h9 := HEs.out w6 ht6 hx6
      rw [← drops_snoc, ← HTk.out] at h9
      exact h9⟩
    have hm6 : Mod F wr w6 := ⟨hx6.mod.os, hx6.mod.tape, hx6.mod.output, hx6.mod.size, fun b hb hf => hx6.mod.block b hb (fun e => hf (HFG.out b e).1)⟩
    have K2 : Hid (w6.ownsRow w1.heap.size 3 1 (.slice (some ⟨g, 0, none⟩) L vc) L (numN l)) := hide (by
      obtain ⟨q1, ⟨q2, q3⟩ | ⟨g', cp', cur', q2, q3, q4, q5⟩⟩ := KV.out
      · cases q2
      · cases q2
        refine ⟨q1, .inr ⟨g, vc, cur', rfl, q3, ?_, q5⟩⟩
        exact (hm6.block g (Array.getElem?_eq_some_iff.1 q4).1 (fun e => by have := HFl.out g e; omega)).trans q4)
    have K3 : Hid (Mod F w1 w6) := hide (KM.out.trans hm6)
    clear ht6 hx6 hm6 HDr HEs HFG KV KM HTk c0 hcc
    go_wp2
    go_roundw
    case rel =>
      first
        | exact ⟨j + 1, by omega, by go_num, K1, K2, K3⟩
        | ((repeat apply Exists.intro); refine ⟨?_, rfl⟩; exact ⟨j + 1, by omega, by go_num, K1, K2, K3⟩)
    case measure => simp [intOf]; omega
  · obtain rfl : j = L := by omega
    have hd : decide ((j : Int) < (j : Int)) = false := by simp
    obtain ⟨m', hE⟩ := KE.out
    rw [← hL, List.take_length] at hE
    have KF := hide hE
    have HL2 := hide hL
    clear hE KE
    go_wp2
    go_ret2
    exact ⟨_, rfl, ⟨S, G, m', by rw [hl]; exact KF.out⟩, by rw [hl, HL2.out]; exact KV.out, KM.out⟩
end
end Go.Proofs.Ytoddadohmnaolaa
