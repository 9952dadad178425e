import Derived.Test.YtiafodeabdhcoaaGreatDoorM10
namespace Go.Proofs.YtiafodeabdhcoaaGreatDoor
open Go.RowKit
section
variable {ts : List Tk}
theorem fr_ch (n : Nat) (e : Ex × Rd) : e.2.Fr (chT ts n e).2 := by
  have h2 := fr_ps (ts := ts) n 1 e.2
  unfold chT
  generalize psF ts n 1 e.2 = b at *
  obtain ⟨b1, r2⟩ := b
  simp only at h2 ⊢
  split
  · split
    · exact (h2.trans (fr_step r2)).trans (fr_ps n 2 r2.step)
    · exact (h2.trans (fr_step r2)).trans (fr_ps n 1 r2.step)
  · exact h2
theorem pg_choice {r : Rd} {n : Nat} (h : (r.see ts).text = [105, 102]) (hn : 1 ≤ n) : r.at' + 1 ≤ (psF ts n 2 r).2.at' := by
  obtain ⟨k, rfl⟩ : ∃ k, n = k + 1 := ⟨n - 1, by omega⟩
  rw [ps_choice, take_is h]
  exact ((fr_whole (ts := ts) r.step).trans (fr_ch k _)).at'
theorem pg_loop {r : Rd} {n : Nat} (h : (r.see ts).text = [119, 104, 105, 108, 101]) (hn : 1 ≤ n) : r.at' + 1 ≤ (psF ts n 3 r).2.at' := by
  obtain ⟨k, rfl⟩ : ∃ k, n = k + 1 := ⟨n - 1, by omega⟩
  rw [ps_loop, take_is h]
  have h1 := (fr_whole (ts := ts) r.step).at'
  have h2 := (fr_ps (ts := ts) k 1 { (Rd.whole ts r.step).2 with loops := (Rd.whole ts r.step).2.loops + 1 }).at'
  exact Nat.le_trans h1 h2
theorem pg_telling {r : Rd} {s : Tx} (h : (r.see ts).text = s) : r.at' + 1 ≤ (r.telling ts s).2.at' := by
  have h5 := fr_whole (ts := ts) r.step
  unfold Rd.telling
  rw [take_is h]
  generalize Rd.whole ts r.step = e at *
  obtain ⟨e1, r3⟩ := e
  exact (h5.trans (fr_take r3 [59])).at'
theorem see_name (r : Rd) (l : Nat) : (r.nname l).see ts = r.see ts := by unfold Rd.nname Rd.see; split <;> rfl
theorem pg_bare {r : Rd} : r.at' + 1 ≤ (r.bare ts (r.see ts)).2.at' := by
  unfold Rd.bare
  simp only
  split
  · have e1 : ((r.nname (r.see ts).line).see ts).text = (r.see ts).text := by rw [see_name]
    rw [take_is e1]
    have h1 : (r.nname (r.see ts).line).at' = r.at' := by unfold Rd.nname; split <;> rfl
    have h2 := (fr_take (ts := ts) (r.nname (r.see ts).line).step [59]).at'
    have h3 : (r.nname (r.see ts).line).step.at' = (r.nname (r.see ts).line).at' + 1 := rfl
    omega
  · rw [take_is rfl]
    exact (fr_take (ts := ts) r.step [59]).at'
theorem pg_block {r : Rd} {n : Nat} (h : (r.see ts).text = [123]) (hn : 1 ≤ n) : r.at' + 1 ≤ (psF ts n 1 r).2.at' := by
  obtain ⟨k, rfl⟩ : ∃ k, n = k + 1 := ⟨n - 1, by omega⟩
  rw [ps_block]
  have h1 := (enter_fr (ts := ts) r).2.2.2.2.2.2
  rw [take_is h] at h1
  have h2 := (fr_ps (ts := ts) k 0 (r.enter ts)).at'
  have h3 : r.step.at' = r.at' + 1 := rfl
  show _ ≤ ((psF ts k 0 (r.enter ts)).2.leave ts).at'
  unfold Rd.leave
  have h4 := (fr_take (ts := ts) { (psF ts k 0 (r.enter ts)).2 with blocks := (psF ts k 0 (r.enter ts)).2.blocks - 1 } [125]).at'
  refine Nat.le_trans ?_ h4
  show r.at' + 1 ≤ (psF ts k 0 (r.enter ts)).2.at'
  omega
theorem pg_assign {r : Rd} : r.at' + 1 ≤ (r.assign ts).2.at' := by
  have h1 := named_at (ts := ts) r
  unfold Rd.assign
  generalize r.named ts = v at *
  obtain ⟨v1, r1⟩ := v
  simp only at h1 ⊢
  split
  · have h2 := fr_whole (ts := ts) r1.step
    generalize Rd.whole ts r1.step = i at *
    obtain ⟨i1, r2⟩ := i
    have h5 := fr_whole (ts := ts) ((r2.take ts [93]).take ts [61])
    have h3 := (fr_take (ts := ts) r2 [93]).trans (fr_take (ts := ts) (r2.take ts [93]) [61])
    generalize Rd.whole ts ((r2.take ts [93]).take ts [61]) = e at *
    obtain ⟨e1, r3⟩ := e
    have h := (((fr_step r1).trans h2).trans (h3.trans h5)).trans (fr_take (ts := ts) r3 [59])
    rw [← h1]
    exact h.at'
  · have h5 := fr_whole (ts := ts) (r1.take ts [61])
    generalize Rd.whole ts (r1.take ts [61]) = e at *
    obtain ⟨e1, r3⟩ := e
    have h := ((fr_take (ts := ts) r1 [61]).trans h5).trans (fr_take (ts := ts) r3 [59])
    rw [← h1]
    exact h.at'
end
theorem Kp.trans2 {g : Nat} {a b c : World} {o : Option Nat} (h : Kp g a b) (hg : b.grownBy c o) (hs : a.heap.size ≤ b.heap.size) (ho : ∀ j, o = some j → a.heap.size ≤ j) : Kp g a c :=
  ⟨hg.os.trans h.os, hg.tape.trans h.tape, hg.output.trans h.output, Nat.le_trans h.size hg.size, fun k hk hn => (hg.block k (by omega) (fun e => by have := ho k e.symm; omega)).trans (h.block k hk hn)⟩
set_option maxRecDepth 100000 in
set_option maxHeartbeats 8000000 in
theorem stmts_step (n : Nat) (hAll : ∀ m, m ≤ n → BlockC m ∧ ChoiceC m ∧ LoopC m) : StmtsC (n + 1) := by
  intro w g ts F r hP hn
  obtain ⟨i9, hi, hz, hsz9, hb9⟩ := info_st10
  have h := hP.a
  have hg9 := hP.g9
  have hn7 := hP.n7
  have hpb := hP.b
  have hpp := hP.p
  have hgl := h.b.lt
  have hln := h.len
  have HG := hide hP.l
  have HR := hide h
  clear h hP
  generalize hRR : psF ts (n + 1) 0 r = RR
  have HRR : Hid ((chn [] (psF ts (n + 1) 0 r).1, (psF ts (n + 1) 0 r).2) = RR) := hide (by rw [← hRR]; rfl)
  clear hRR
  go_enter Tryz.func53, Tryz.ntmps53
  go_upto_region 1 with fail
  go_step3
  go_upto_region 2 with fail
  go_step3
  go_upto_region 2 with fail
  go_loopw [3] (fun v wr => ∃ (m : Nat) (acc : List Sl) (L : List (List Value)) (r1 : Rd), (chn acc (psF ts m 0 r1).1, (psF ts m 0 r1).2) = RR ∧ m ≤ n + 1 ∧ 4 * (ts.length - r1.at') + 4 ≤ m ∧ r1.vars = r.vars ∧ r1.blocks + m ≤ 1000000 ∧ r1.loops + m ≤ 1000000 ∧ L.length ≤ r1.at' ∧ Rws wr w.heap.size v acc L ∧ RdA wr g ts F r1 ∧ Kp g w wr) (fun _ wr => ts.length - rdPos wr g)
  case atStart => exact ⟨n + 1, [], [], r, HRR.out, Nat.le_refl _, hn, rfl, hpb, hpp, by simp, ⟨rfl, fun _ => rfl, ⟨rfl, .inl ⟨rfl, rfl⟩⟩, fun i h => by simp at h⟩, HR.out, Kp.refl g w⟩
  case round =>
  obtain ⟨m, acc, L, r1, hrr, hm, hfu, hv1, hb1, hl1, hLa, hRw, hA, hK⟩ := hrel
  obtain ⟨m', rfl⟩ : ∃ m', m = m' + 1 := ⟨m - 1, by omega⟩
  rw [ps_zero] at hrr
  have HRn : Hid (∀ s r', oneT ts m' r1 = some (some s, r') → (chn (acc ++ [s]) (psF ts m' 0 r').1, (psF ts m' 0 r').2) = RR) := hide (fun s r' e => by rw [e] at hrr; rw [chn_snoc]; exact hrr)
  have HRe : Hid (oneT ts m' r1 = none → (chn acc none, r1) = RR) := hide (fun e => by rw [e] at hrr; exact hrr)
  have HOne : Hid (oneT ts m' r1 = (
  if (r1.see ts).text = [105, 102] then some (psF ts m' 2 r1)
    else if (r1.see ts).text = [119, 104, 105, 108, 101] then some (psF ts m' 3 r1)
    else if (r1.see ts).text = [101, 109, 105, 116] ∨ (r1.see ts).text = [115, 116, 111, 112] then some (some (r1.telling ts (r1.see ts).text).1, (r1.telling ts (r1.see ts).text).2)
    else if (r1.see ts).text = [121, 105, 101, 108, 100] ∨ (r1.see ts).text = [98, 114, 101, 97, 107] ∨ (r1.see ts).text = [99, 111, 110, 116, 105, 110, 117, 101] then some (some (r1.bare ts (r1.see ts)).1, (r1.bare ts (r1.see ts)).2)
    else if (r1.see ts).text = [123] then some (some { Sl.of [123] with body := (psF ts m' 1 r1).1 }, (psF ts m' 1 r1).2)
    else if (r1.see ts).kind = 4 then some (some (r1.assign ts).1, (r1.assign ts).2)
    else none
    )) := hide rfl
  have hatl := hA.hat
  have HM : Hid (2 ≤ (r1.see ts).kind ∨ (r1.see ts).text ≠ [] → r1.at' + 1 < ts.length) := hide (fun e => (hA.more e).1)
  have HPo := hide hA.pos
  have HS := hide (see_any wr g ts F r1 hA)
  have HA := hide hA
  have HK := hide hK
  have HRw := hide hRw
  have HVv := hide hv1
  obtain ⟨hBl, hCh, hLp⟩ := hAll m' (by omega)
  have HCi := hide (fun W (hW : RdA W g ts F r1) (hGW : Lg W) (hx : (r1.see ts).text = [105, 102]) => hCh W g ts F r1 ⟨hW, hGW, hg9, by omega, by omega, by omega⟩ hx (by have := HM.out (.inr (by rw [hx]; decide)); omega))
  have HCw := hide (fun W (hW : RdA W g ts F r1) (hGW : Lg W) (hx : (r1.see ts).text = [119, 104, 105, 108, 101]) => hLp W g ts F r1 ⟨hW, hGW, hg9, by omega, by omega, by omega⟩ hx (by have := HM.out (.inr (by rw [hx]; decide)); omega))
  have HCb := hide (fun W (hW : RdA W g ts F r1) (hGW : Lg W) (hx : (r1.see ts).text = [123]) => hBl W g ts F r1 ⟨hW, hGW, hg9, by omega, by omega, by omega⟩ (by
    have h1 := (enter_fr (ts := ts) r1).2.2.2.2.2.2
    rw [take_is hx] at h1
    have h3 : r1.step.at' = r1.at' + 1 := rfl
    have := HM.out (.inr (by rw [hx]; decide))
    omega))
  have HCt := hide (fun W (hW : RdA W g ts F r1) (hGW : Lg W) (hx : (r1.see ts).text ≠ []) => telling_any W g ts F r1 (r1.see ts).text hx hW hGW hg9)
  have HCr := hide (fun W (hW : RdA W g ts F r1) (hx : (r1.see ts).text ≠ []) => bare_any W g ts F r1 (r1.see ts) hx hW)
  have HCa := hide (fun W (hW : RdA W g ts F r1) (hGW : Lg W) (hx : (r1.see ts).kind = 4) => assign_any W g ts F r1 hx hW hGW hg9)
  have HPi : Hid ((r1.see ts).text = [105, 102] → r1.at' + 1 ≤ (psF ts m' 2 r1).2.at') := hide (fun h => pg_choice h (by omega))
  have HPw : Hid ((r1.see ts).text = [119, 104, 105, 108, 101] → r1.at' + 1 ≤ (psF ts m' 3 r1).2.at') := hide (fun h => pg_loop h (by omega))
  have HPb : Hid ((r1.see ts).text = [123] → r1.at' + 1 ≤ (psF ts m' 1 r1).2.at') := hide (fun h => pg_block h (by omega))
  have HPt : Hid (r1.at' + 1 ≤ (r1.telling ts (r1.see ts).text).2.at') := hide (pg_telling rfl)
  have HPr : Hid (r1.at' + 1 ≤ (r1.bare ts (r1.see ts)).2.at') := hide pg_bare
  have HPa : Hid (r1.at' + 1 ≤ (r1.assign ts).2.at') := hide pg_assign
  have HFi := hide (fr_ps (ts := ts) m' 2 r1)
  have HFl := hide (fr_ps (ts := ts) m' 3 r1)
  have HFb := hide (fr_ps (ts := ts) m' 1 r1)
  have HFt := hide (fr_telling (ts := ts) r1 (r1.see ts).text)
  have HFr := hide (fr_bare (ts := ts) r1 (r1.see ts))
  have HFa := hide (fr_assign (ts := ts) r1)
  obtain ⟨au, cu, rfl⟩ := own_shape hRw.own
  clear hrr hv1 hRw hA hK hBl hCh hLp HRR
  generalize r1.assign ts = ra at *
  generalize psF ts m' 1 r1 = rb at *
  generalize psF ts m' 2 r1 = rc at *
  generalize psF ts m' 3 r1 = rw' at *
  obtain ⟨t, ht⟩ : ∃ t, r1.see ts = t := ⟨_, rfl⟩
  rw [ht] at HS HM HOne HCi HCw HCb HCt HCr HCa HPi HPw HPb HPt HPr HFt HFr
  obtain ⟨tk, tx, tv, tl⟩ := t
  clear ht
  generalize r1.bare ts ⟨tk, tx, tv, tl⟩ = rr at *
  simp only [tkL] at HS HM HOne HCi HCw HCb HCt HCr HCa HPi HPw HPb HPt HPr HFt HFr
  generalize r1.telling ts tx = rt at *
  go_wp2_with fail
  refine HS.out.mono ?_
  rintro e w1 ⟨rfl, hb1'⟩
  have HA1 := hide (HA.out.keep hb1')
  have HK1 := hide (HK.out.trans (Kp.of hb1'))
  have HR1 := hide (HRw.out.keepK (Kp.of (g := g) hb1') hgl)
  clear hb1' HA HK HRw HS
  go_upto_region 3 with fail
  have HT2 : Hid (Blk (w1.alloc (.cells #[.int .i64 (tk : Nat), .string ⟨tx.toArray⟩, .int .u32 (tv : Nat), .int .i64 (tl : Nat)] 115)) w1.heap.size 115 (tkL ⟨tk, tx, tv, tl⟩)) := hide ⟨heap_alloc_new _ _⟩
  have hb2 := bel1 w1 (.cells #[.int .i64 (tk : Nat), .string ⟨tx.toArray⟩, .int .u32 (tv : Nat), .int .i64 (tl : Nat)] 115)
  have HK2 := hide (HK1.out.trans (Kp.of hb2))
  have HA2 := hide (HA1.out.keep hb2)
  have HR2 := hide (HR1.out.keepK (Kp.of (g := g) hb2) hgl)
  have hgN : g < w1.heap.size := HA1.out.b.lt
  clear hb2 HK1 HA1 HR1
  generalize w1.alloc (.cells #[.int .i64 (tk : Nat), .string ⟨tx.toArray⟩, .int .u32 (tv : Nat), .int .i64 (tl : Nat)] 115) = W2 at *
  generalize w1.heap.size = N1 at *
  have HG2 := hide (HG.out.keepK HK2.out hg9)
  have t0 := HT2.out.get (j := 0) rfl
  have t1 := HT2.out.get (j := 1) rfl
  have t2 := HT2.out.get (j := 2) rfl
  have t3 := HT2.out.get (j := 3) rfl
  simp only at t0 t1 t2 t3
  have hw2 := HK2.out.size
  by_cases n_if : tx = [105, 102]
  · have HX := hide n_if
    have bx : (tx == [105, 102]) = true := by simpa using HX.out
    clear n_if
    have HC3 := hide (HCi.out W2 HA2.out HG2.out HX.out)
    go_wp2_with fail
    refine HC3.out.mono ?_
    rintro e w3 ⟨sc, hsc, hnx, cs, rfl, hSt, hA3, hk3⟩
    simp only at hSt hA3
    have HSt := hide (hSt.mono (Y := fun k => w.heap.size ≤ k ∧ (Value.slice au L.length cu).ownBlock ≠ some k) (fun k (hk : W2.heap.size ≤ k) => ⟨by omega, fun e => by have := (HR2.out.own.lt k e).2; omega⟩))
    have HA3 := hide hA3
    have HK3 := hide (HK2.out.trans hk3)
    have HR3 := hide (HR2.out.keepK hk3 hgl)
    have hw3 := HK3.out.size
    have h10 := hSt.len
    have hone := hSt.one
    obtain ⟨pi, pv, pb, pr, hcs, _⟩ := hSt
    have HH1 := hide h10
    have HH2 := hide hone
    clear hA3 hk3 HC3 HA2 HK2 HR2 HT2 h10 hone hnx
    have HCs := hide hcs
    rw [hcs]
    clear hcs
    simp only [stL]
    go_wp2_with (at_builtin; refine wpList_append_own_at _ rfl _ _ 55 rfl w.heap.size 92 i9 (.agg (List.toArray stZ)) 10 128 Tryz.underlying55 hi hz hsz9 hb9 rfl (by decide) _ _ _ rfl (HR3.out.own.alloc _) ⟨_, 0, none⟩ 1 1 [.string ⟨sc.word.toArray⟩, .string ⟨sc.var.name.toArray⟩, .bool sc.var.arr, .int .i64 (sc.var.size : Nat), .int .i64 (sc.var.at' : Nat), pi, pv, pb, .int .i64 (sc.oth : Nat), pr] rfl rfl (cells_new _ _ _) (by have := HH2.out; rw [HCs.out] at this; exact this) (by unfold maxLen; omega) (by omega) (by simp; omega) ?_; intro v5 w5 ho5 hg5 _ hbb5; obtain ⟨a5, c5, rfl⟩ := own_shape ho5)
    have hbx := bel1 w3 (.cells #[.string ⟨sc.word.toArray⟩, .string ⟨sc.var.name.toArray⟩, .bool sc.var.arr, .int .i64 (sc.var.size : Nat), .int .i64 (sc.var.at' : Nat), pi, pv, pb, .int .i64 (sc.oth : Nat), pr] 92)
    have HR5 : Hid (Rws w5 w.heap.size (.slice a5 (L.length + 1) c5) (acc ++ [sc]) (L ++ [cs])) := hide (Rws.app (HR3.out.keepK (Kp.of (g := g) hbx) hgl) (HSt.out.go (fun k hk hs => ⟨hk, hbx.block k hs⟩)) hg5 (by rw [HCs.out]; exact ho5) hbb5)
    have HK5 : Hid (Kp g w w5) := hide ((HK3.out.alloc (.cells #[.string ⟨sc.word.toArray⟩, .string ⟨sc.var.name.toArray⟩, .bool sc.var.arr, .int .i64 (sc.var.size : Nat), .int .i64 (sc.var.at' : Nat), pi, pv, pb, .int .i64 (sc.oth : Nat), pr] 92)).trans2 hg5 (by simp; omega) (fun j hj => (HR3.out.own.lt j hj).1))
    have HA5 : Hid (RdA w5 g ts F rc.2) := hide (HR.out.to HK5.out ((HA3.out.keep hbx).b.keep (hg5.block g (by simp; have := HA3.out.b.lt; omega) (fun e => by have := (HR3.out.own.lt g e.symm).1; omega))) (HFi.out.vars.trans HVv.out) HA3.out.hat)
    clear hbx ho5 hg5 hbb5 HR3 HK3 HA3 HSt HCs
    (try go_wp2)
    refine ⟨⟨m', acc ++ [sc], L ++ [cs], rc.2, HRn.out _ _ (by rw [HOne.out, if_pos HX.out]; exact congrArg some (Prod.ext hsc rfl)), by omega, by have := (HPi.out HX.out); omega, (HFi.out.vars.trans HVv.out), by have := HFi.out.blocks; omega, by have := HFi.out.loops; omega, by have := (HPi.out HX.out); simp; omega, by simpa using HR5.out, HA5.out, HK5.out⟩, ?_⟩
    rw [HA5.out.pos, HPo.out]
    have := (HPi.out HX.out)
    omega
  · skip
    by_cases n_while : tx = [119, 104, 105, 108, 101]
    · have HX := hide n_while
      have bx : (tx == [119, 104, 105, 108, 101]) = true := by simpa using HX.out
      have b_if : (tx == [105, 102]) = false := by simpa using n_if
      clear n_while
      have HC3 := hide (HCw.out W2 HA2.out HG2.out HX.out)
      go_wp2_with fail
      refine HC3.out.mono ?_
      rintro e w3 ⟨sc, hsc, hnx, cs, rfl, hSt, hA3, hk3⟩
      simp only at hSt hA3
      have HSt := hide (hSt.mono (Y := fun k => w.heap.size ≤ k ∧ (Value.slice au L.length cu).ownBlock ≠ some k) (fun k (hk : W2.heap.size ≤ k) => ⟨by omega, fun e => by have := (HR2.out.own.lt k e).2; omega⟩))
      have HA3 := hide hA3
      have HK3 := hide (HK2.out.trans hk3)
      have HR3 := hide (HR2.out.keepK hk3 hgl)
      have hw3 := HK3.out.size
      have h10 := hSt.len
      have hone := hSt.one
      obtain ⟨pi, pv, pb, pr, hcs, _⟩ := hSt
      have HH1 := hide h10
      have HH2 := hide hone
      clear hA3 hk3 HC3 HA2 HK2 HR2 HT2 h10 hone hnx
      have HCs := hide hcs
      rw [hcs]
      clear hcs
      simp only [stL]
      go_wp2_with (at_builtin; refine wpList_append_own_at _ rfl _ _ 55 rfl w.heap.size 92 i9 (.agg (List.toArray stZ)) 10 128 Tryz.underlying55 hi hz hsz9 hb9 rfl (by decide) _ _ _ rfl (HR3.out.own.alloc _) ⟨_, 0, none⟩ 1 1 [.string ⟨sc.word.toArray⟩, .string ⟨sc.var.name.toArray⟩, .bool sc.var.arr, .int .i64 (sc.var.size : Nat), .int .i64 (sc.var.at' : Nat), pi, pv, pb, .int .i64 (sc.oth : Nat), pr] rfl rfl (cells_new _ _ _) (by have := HH2.out; rw [HCs.out] at this; exact this) (by unfold maxLen; omega) (by omega) (by simp; omega) ?_; intro v5 w5 ho5 hg5 _ hbb5; obtain ⟨a5, c5, rfl⟩ := own_shape ho5)
      have hbx := bel1 w3 (.cells #[.string ⟨sc.word.toArray⟩, .string ⟨sc.var.name.toArray⟩, .bool sc.var.arr, .int .i64 (sc.var.size : Nat), .int .i64 (sc.var.at' : Nat), pi, pv, pb, .int .i64 (sc.oth : Nat), pr] 92)
      have HR5 : Hid (Rws w5 w.heap.size (.slice a5 (L.length + 1) c5) (acc ++ [sc]) (L ++ [cs])) := hide (Rws.app (HR3.out.keepK (Kp.of (g := g) hbx) hgl) (HSt.out.go (fun k hk hs => ⟨hk, hbx.block k hs⟩)) hg5 (by rw [HCs.out]; exact ho5) hbb5)
      have HK5 : Hid (Kp g w w5) := hide ((HK3.out.alloc (.cells #[.string ⟨sc.word.toArray⟩, .string ⟨sc.var.name.toArray⟩, .bool sc.var.arr, .int .i64 (sc.var.size : Nat), .int .i64 (sc.var.at' : Nat), pi, pv, pb, .int .i64 (sc.oth : Nat), pr] 92)).trans2 hg5 (by simp; omega) (fun j hj => (HR3.out.own.lt j hj).1))
      have HA5 : Hid (RdA w5 g ts F rw'.2) := hide (HR.out.to HK5.out ((HA3.out.keep hbx).b.keep (hg5.block g (by simp; have := HA3.out.b.lt; omega) (fun e => by have := (HR3.out.own.lt g e.symm).1; omega))) (HFl.out.vars.trans HVv.out) HA3.out.hat)
      clear hbx ho5 hg5 hbb5 HR3 HK3 HA3 HSt HCs
      (try go_wp2)
      refine ⟨⟨m', acc ++ [sc], L ++ [cs], rw'.2, HRn.out _ _ (by rw [HOne.out, if_neg n_if, if_pos HX.out]; exact congrArg some (Prod.ext hsc rfl)), by omega, by have := (HPw.out HX.out); omega, (HFl.out.vars.trans HVv.out), by have := HFl.out.blocks; omega, by have := HFl.out.loops; omega, by have := (HPw.out HX.out); simp; omega, by simpa using HR5.out, HA5.out, HK5.out⟩, ?_⟩
      rw [HA5.out.pos, HPo.out]
      have := (HPw.out HX.out)
      omega
    · skip
      by_cases n_emit : tx = [101, 109, 105, 116]
      · have HX := hide n_emit
        have bx : (tx == [101, 109, 105, 116]) = true := by simpa using HX.out
        have b_if : (tx == [105, 102]) = false := by simpa using n_if
        have b_while : (tx == [119, 104, 105, 108, 101]) = false := by simpa using n_while
        clear n_emit
        have HC3 := hide (HCt.out W2 HA2.out HG2.out (by rw [HX.out]; decide))
        go_wp2_with fail
        refine HC3.out.mono ?_
        rintro e w3 ⟨cs, rfl, hSt, hA3, hk3⟩
        have HSt := hide (hSt.mono (Y := fun k => w.heap.size ≤ k ∧ (Value.slice au L.length cu).ownBlock ≠ some k) (fun k (hk : W2.heap.size ≤ k) => ⟨by omega, fun e => by have := (HR2.out.own.lt k e).2; omega⟩))
        have HA3 := hide hA3
        have HK3 := hide (HK2.out.trans hk3)
        have HR3 := hide (HR2.out.keepK hk3 hgl)
        have hw3 := HK3.out.size
        have h10 := hSt.len
        have hone := hSt.one
        obtain ⟨pi, pv, pb, pr, hcs, _⟩ := hSt
        have HH1 := hide h10
        have HH2 := hide hone
        clear hA3 hk3 HC3 HA2 HK2 HR2 HT2 h10 hone 
        have HCs := hide hcs
        rw [hcs]
        clear hcs
        simp only [stL]
        go_wp2_with (at_builtin; refine wpList_append_own_at _ rfl _ _ 55 rfl w.heap.size 92 i9 (.agg (List.toArray stZ)) 10 128 Tryz.underlying55 hi hz hsz9 hb9 rfl (by decide) _ _ _ rfl (HR3.out.own.alloc _) ⟨_, 0, none⟩ 1 1 [.string ⟨rt.1.word.toArray⟩, .string ⟨rt.1.var.name.toArray⟩, .bool rt.1.var.arr, .int .i64 (rt.1.var.size : Nat), .int .i64 (rt.1.var.at' : Nat), pi, pv, pb, .int .i64 (rt.1.oth : Nat), pr] rfl rfl (cells_new _ _ _) (by have := HH2.out; rw [HCs.out] at this; exact this) (by unfold maxLen; omega) (by omega) (by simp; omega) ?_; intro v5 w5 ho5 hg5 _ hbb5; obtain ⟨a5, c5, rfl⟩ := own_shape ho5)
        have hbx := bel1 w3 (.cells #[.string ⟨rt.1.word.toArray⟩, .string ⟨rt.1.var.name.toArray⟩, .bool rt.1.var.arr, .int .i64 (rt.1.var.size : Nat), .int .i64 (rt.1.var.at' : Nat), pi, pv, pb, .int .i64 (rt.1.oth : Nat), pr] 92)
        have HR5 : Hid (Rws w5 w.heap.size (.slice a5 (L.length + 1) c5) (acc ++ [rt.1]) (L ++ [cs])) := hide (Rws.app (HR3.out.keepK (Kp.of (g := g) hbx) hgl) (HSt.out.go (fun k hk hs => ⟨hk, hbx.block k hs⟩)) hg5 (by rw [HCs.out]; exact ho5) hbb5)
        have HK5 : Hid (Kp g w w5) := hide ((HK3.out.alloc (.cells #[.string ⟨rt.1.word.toArray⟩, .string ⟨rt.1.var.name.toArray⟩, .bool rt.1.var.arr, .int .i64 (rt.1.var.size : Nat), .int .i64 (rt.1.var.at' : Nat), pi, pv, pb, .int .i64 (rt.1.oth : Nat), pr] 92)).trans2 hg5 (by simp; omega) (fun j hj => (HR3.out.own.lt j hj).1))
        have HA5 : Hid (RdA w5 g ts F rt.2) := hide (HR.out.to HK5.out ((HA3.out.keep hbx).b.keep (hg5.block g (by simp; have := HA3.out.b.lt; omega) (fun e => by have := (HR3.out.own.lt g e.symm).1; omega))) (HFt.out.vars.trans HVv.out) HA3.out.hat)
        clear hbx ho5 hg5 hbb5 HR3 HK3 HA3 HSt HCs
        (try go_wp2)
        refine ⟨⟨m', acc ++ [rt.1], L ++ [cs], rt.2, HRn.out _ _ (by rw [HOne.out, if_neg n_if, if_neg n_while, if_pos (.inl HX.out)]), by omega, by have := HPt.out; omega, (HFt.out.vars.trans HVv.out), by have := HFt.out.blocks; omega, by have := HFt.out.loops; omega, by have := HPt.out; simp; omega, by simpa using HR5.out, HA5.out, HK5.out⟩, ?_⟩
        rw [HA5.out.pos, HPo.out]
        have := HPt.out
        omega
      · skip
        by_cases n_stop : tx = [115, 116, 111, 112]
        · have HX := hide n_stop
          have bx : (tx == [115, 116, 111, 112]) = true := by simpa using HX.out
          have b_if : (tx == [105, 102]) = false := by simpa using n_if
          have b_while : (tx == [119, 104, 105, 108, 101]) = false := by simpa using n_while
          have b_emit : (tx == [101, 109, 105, 116]) = false := by simpa using n_emit
          clear n_stop
          have HC3 := hide (HCt.out W2 HA2.out HG2.out (by rw [HX.out]; decide))
          go_wp2_with fail
          refine HC3.out.mono ?_
          rintro e w3 ⟨cs, rfl, hSt, hA3, hk3⟩
          have HSt := hide (hSt.mono (Y := fun k => w.heap.size ≤ k ∧ (Value.slice au L.length cu).ownBlock ≠ some k) (fun k (hk : W2.heap.size ≤ k) => ⟨by omega, fun e => by have := (HR2.out.own.lt k e).2; omega⟩))
          have HA3 := hide hA3
          have HK3 := hide (HK2.out.trans hk3)
          have HR3 := hide (HR2.out.keepK hk3 hgl)
          have hw3 := HK3.out.size
          have h10 := hSt.len
          have hone := hSt.one
          obtain ⟨pi, pv, pb, pr, hcs, _⟩ := hSt
          have HH1 := hide h10
          have HH2 := hide hone
          clear hA3 hk3 HC3 HA2 HK2 HR2 HT2 h10 hone 
          have HCs := hide hcs
          rw [hcs]
          clear hcs
          simp only [stL]
          go_wp2_with (at_builtin; refine wpList_append_own_at _ rfl _ _ 55 rfl w.heap.size 92 i9 (.agg (List.toArray stZ)) 10 128 Tryz.underlying55 hi hz hsz9 hb9 rfl (by decide) _ _ _ rfl (HR3.out.own.alloc _) ⟨_, 0, none⟩ 1 1 [.string ⟨rt.1.word.toArray⟩, .string ⟨rt.1.var.name.toArray⟩, .bool rt.1.var.arr, .int .i64 (rt.1.var.size : Nat), .int .i64 (rt.1.var.at' : Nat), pi, pv, pb, .int .i64 (rt.1.oth : Nat), pr] rfl rfl (cells_new _ _ _) (by have := HH2.out; rw [HCs.out] at this; exact this) (by unfold maxLen; omega) (by omega) (by simp; omega) ?_; intro v5 w5 ho5 hg5 _ hbb5; obtain ⟨a5, c5, rfl⟩ := own_shape ho5)
          have hbx := bel1 w3 (.cells #[.string ⟨rt.1.word.toArray⟩, .string ⟨rt.1.var.name.toArray⟩, .bool rt.1.var.arr, .int .i64 (rt.1.var.size : Nat), .int .i64 (rt.1.var.at' : Nat), pi, pv, pb, .int .i64 (rt.1.oth : Nat), pr] 92)
          have HR5 : Hid (Rws w5 w.heap.size (.slice a5 (L.length + 1) c5) (acc ++ [rt.1]) (L ++ [cs])) := hide (Rws.app (HR3.out.keepK (Kp.of (g := g) hbx) hgl) (HSt.out.go (fun k hk hs => ⟨hk, hbx.block k hs⟩)) hg5 (by rw [HCs.out]; exact ho5) hbb5)
          have HK5 : Hid (Kp g w w5) := hide ((HK3.out.alloc (.cells #[.string ⟨rt.1.word.toArray⟩, .string ⟨rt.1.var.name.toArray⟩, .bool rt.1.var.arr, .int .i64 (rt.1.var.size : Nat), .int .i64 (rt.1.var.at' : Nat), pi, pv, pb, .int .i64 (rt.1.oth : Nat), pr] 92)).trans2 hg5 (by simp; omega) (fun j hj => (HR3.out.own.lt j hj).1))
          have HA5 : Hid (RdA w5 g ts F rt.2) := hide (HR.out.to HK5.out ((HA3.out.keep hbx).b.keep (hg5.block g (by simp; have := HA3.out.b.lt; omega) (fun e => by have := (HR3.out.own.lt g e.symm).1; omega))) (HFt.out.vars.trans HVv.out) HA3.out.hat)
          clear hbx ho5 hg5 hbb5 HR3 HK3 HA3 HSt HCs
          (try go_wp2)
          refine ⟨⟨m', acc ++ [rt.1], L ++ [cs], rt.2, HRn.out _ _ (by rw [HOne.out, if_neg n_if, if_neg n_while, if_pos (.inr HX.out)]), by omega, by have := HPt.out; omega, (HFt.out.vars.trans HVv.out), by have := HFt.out.blocks; omega, by have := HFt.out.loops; omega, by have := HPt.out; simp; omega, by simpa using HR5.out, HA5.out, HK5.out⟩, ?_⟩
          rw [HA5.out.pos, HPo.out]
          have := HPt.out
          omega
        · skip
          by_cases n_yield : tx = [121, 105, 101, 108, 100]
          · have HX := hide n_yield
            have bx : (tx == [121, 105, 101, 108, 100]) = true := by simpa using HX.out
            have b_if : (tx == [105, 102]) = false := by simpa using n_if
            have b_while : (tx == [119, 104, 105, 108, 101]) = false := by simpa using n_while
            have b_emit : (tx == [101, 109, 105, 116]) = false := by simpa using n_emit
            have b_stop : (tx == [115, 116, 111, 112]) = false := by simpa using n_stop
            clear n_yield
            have HC3 := hide (HCr.out W2 HA2.out (by show tx ≠ []; rw [HX.out]; decide))
            go_wp2_with fail
            refine HC3.out.mono ?_
            rintro e w3 ⟨cs, rfl, hSt, hA3, hk3⟩
            have HSt := hide (hSt.mono (Y := fun k => w.heap.size ≤ k ∧ (Value.slice au L.length cu).ownBlock ≠ some k) (fun k (hk : W2.heap.size ≤ k) => ⟨by omega, fun e => by have := (HR2.out.own.lt k e).2; omega⟩))
            have HA3 := hide hA3
            have HK3 := hide (HK2.out.trans hk3)
            have HR3 := hide (HR2.out.keepK hk3 hgl)
            have hw3 := HK3.out.size
            have h10 := hSt.len
            have hone := hSt.one
            obtain ⟨pi, pv, pb, pr, hcs, _⟩ := hSt
            have HH1 := hide h10
            have HH2 := hide hone
            clear hA3 hk3 HC3 HA2 HK2 HR2 HT2 h10 hone 
            have HCs := hide hcs
            rw [hcs]
            clear hcs
            simp only [stL]
            go_wp2_with (at_builtin; refine wpList_append_own_at _ rfl _ _ 55 rfl w.heap.size 92 i9 (.agg (List.toArray stZ)) 10 128 Tryz.underlying55 hi hz hsz9 hb9 rfl (by decide) _ _ _ rfl (HR3.out.own.alloc _) ⟨_, 0, none⟩ 1 1 [.string ⟨rr.1.word.toArray⟩, .string ⟨rr.1.var.name.toArray⟩, .bool rr.1.var.arr, .int .i64 (rr.1.var.size : Nat), .int .i64 (rr.1.var.at' : Nat), pi, pv, pb, .int .i64 (rr.1.oth : Nat), pr] rfl rfl (cells_new _ _ _) (by have := HH2.out; rw [HCs.out] at this; exact this) (by unfold maxLen; omega) (by omega) (by simp; omega) ?_; intro v5 w5 ho5 hg5 _ hbb5; obtain ⟨a5, c5, rfl⟩ := own_shape ho5)
            have hbx := bel1 w3 (.cells #[.string ⟨rr.1.word.toArray⟩, .string ⟨rr.1.var.name.toArray⟩, .bool rr.1.var.arr, .int .i64 (rr.1.var.size : Nat), .int .i64 (rr.1.var.at' : Nat), pi, pv, pb, .int .i64 (rr.1.oth : Nat), pr] 92)
            have HR5 : Hid (Rws w5 w.heap.size (.slice a5 (L.length + 1) c5) (acc ++ [rr.1]) (L ++ [cs])) := hide (Rws.app (HR3.out.keepK (Kp.of (g := g) hbx) hgl) (HSt.out.go (fun k hk hs => ⟨hk, hbx.block k hs⟩)) hg5 (by rw [HCs.out]; exact ho5) hbb5)
            have HK5 : Hid (Kp g w w5) := hide ((HK3.out.alloc (.cells #[.string ⟨rr.1.word.toArray⟩, .string ⟨rr.1.var.name.toArray⟩, .bool rr.1.var.arr, .int .i64 (rr.1.var.size : Nat), .int .i64 (rr.1.var.at' : Nat), pi, pv, pb, .int .i64 (rr.1.oth : Nat), pr] 92)).trans2 hg5 (by simp; omega) (fun j hj => (HR3.out.own.lt j hj).1))
            have HA5 : Hid (RdA w5 g ts F rr.2) := hide (HR.out.to HK5.out ((HA3.out.keep hbx).b.keep (hg5.block g (by simp; have := HA3.out.b.lt; omega) (fun e => by have := (HR3.out.own.lt g e.symm).1; omega))) (HFr.out.vars.trans HVv.out) HA3.out.hat)
            clear hbx ho5 hg5 hbb5 HR3 HK3 HA3 HSt HCs
            (try go_wp2)
            refine ⟨⟨m', acc ++ [rr.1], L ++ [cs], rr.2, HRn.out _ _ (by rw [HOne.out, if_neg n_if, if_neg n_while, if_neg (fun h => h.elim n_emit n_stop), if_pos (.inl HX.out)]), by omega, by have := HPr.out; omega, (HFr.out.vars.trans HVv.out), by have := HFr.out.blocks; omega, by have := HFr.out.loops; omega, by have := HPr.out; simp; omega, by simpa using HR5.out, HA5.out, HK5.out⟩, ?_⟩
            rw [HA5.out.pos, HPo.out]
            have := HPr.out
            omega
          · skip
            by_cases n_break : tx = [98, 114, 101, 97, 107]
            · have HX := hide n_break
              have bx : (tx == [98, 114, 101, 97, 107]) = true := by simpa using HX.out
              have b_if : (tx == [105, 102]) = false := by simpa using n_if
              have b_while : (tx == [119, 104, 105, 108, 101]) = false := by simpa using n_while
              have b_emit : (tx == [101, 109, 105, 116]) = false := by simpa using n_emit
              have b_stop : (tx == [115, 116, 111, 112]) = false := by simpa using n_stop
              have b_yield : (tx == [121, 105, 101, 108, 100]) = false := by simpa using n_yield
              clear n_break
              have HC3 := hide (HCr.out W2 HA2.out (by show tx ≠ []; rw [HX.out]; decide))
              go_wp2_with fail
              refine HC3.out.mono ?_
              rintro e w3 ⟨cs, rfl, hSt, hA3, hk3⟩
              have HSt := hide (hSt.mono (Y := fun k => w.heap.size ≤ k ∧ (Value.slice au L.length cu).ownBlock ≠ some k) (fun k (hk : W2.heap.size ≤ k) => ⟨by omega, fun e => by have := (HR2.out.own.lt k e).2; omega⟩))
              have HA3 := hide hA3
              have HK3 := hide (HK2.out.trans hk3)
              have HR3 := hide (HR2.out.keepK hk3 hgl)
              have hw3 := HK3.out.size
              have h10 := hSt.len
              have hone := hSt.one
              obtain ⟨pi, pv, pb, pr, hcs, _⟩ := hSt
              have HH1 := hide h10
              have HH2 := hide hone
              clear hA3 hk3 HC3 HA2 HK2 HR2 HT2 h10 hone 
              have HCs := hide hcs
              rw [hcs]
              clear hcs
              simp only [stL]
              go_wp2_with (at_builtin; refine wpList_append_own_at _ rfl _ _ 55 rfl w.heap.size 92 i9 (.agg (List.toArray stZ)) 10 128 Tryz.underlying55 hi hz hsz9 hb9 rfl (by decide) _ _ _ rfl (HR3.out.own.alloc _) ⟨_, 0, none⟩ 1 1 [.string ⟨rr.1.word.toArray⟩, .string ⟨rr.1.var.name.toArray⟩, .bool rr.1.var.arr, .int .i64 (rr.1.var.size : Nat), .int .i64 (rr.1.var.at' : Nat), pi, pv, pb, .int .i64 (rr.1.oth : Nat), pr] rfl rfl (cells_new _ _ _) (by have := HH2.out; rw [HCs.out] at this; exact this) (by unfold maxLen; omega) (by omega) (by simp; omega) ?_; intro v5 w5 ho5 hg5 _ hbb5; obtain ⟨a5, c5, rfl⟩ := own_shape ho5)
              have hbx := bel1 w3 (.cells #[.string ⟨rr.1.word.toArray⟩, .string ⟨rr.1.var.name.toArray⟩, .bool rr.1.var.arr, .int .i64 (rr.1.var.size : Nat), .int .i64 (rr.1.var.at' : Nat), pi, pv, pb, .int .i64 (rr.1.oth : Nat), pr] 92)
              have HR5 : Hid (Rws w5 w.heap.size (.slice a5 (L.length + 1) c5) (acc ++ [rr.1]) (L ++ [cs])) := hide (Rws.app (HR3.out.keepK (Kp.of (g := g) hbx) hgl) (HSt.out.go (fun k hk hs => ⟨hk, hbx.block k hs⟩)) hg5 (by rw [HCs.out]; exact ho5) hbb5)
              have HK5 : Hid (Kp g w w5) := hide ((HK3.out.alloc (.cells #[.string ⟨rr.1.word.toArray⟩, .string ⟨rr.1.var.name.toArray⟩, .bool rr.1.var.arr, .int .i64 (rr.1.var.size : Nat), .int .i64 (rr.1.var.at' : Nat), pi, pv, pb, .int .i64 (rr.1.oth : Nat), pr] 92)).trans2 hg5 (by simp; omega) (fun j hj => (HR3.out.own.lt j hj).1))
              have HA5 : Hid (RdA w5 g ts F rr.2) := hide (HR.out.to HK5.out ((HA3.out.keep hbx).b.keep (hg5.block g (by simp; have := HA3.out.b.lt; omega) (fun e => by have := (HR3.out.own.lt g e.symm).1; omega))) (HFr.out.vars.trans HVv.out) HA3.out.hat)
              clear hbx ho5 hg5 hbb5 HR3 HK3 HA3 HSt HCs
              (try go_wp2)
              refine ⟨⟨m', acc ++ [rr.1], L ++ [cs], rr.2, HRn.out _ _ (by rw [HOne.out, if_neg n_if, if_neg n_while, if_neg (fun h => h.elim n_emit n_stop), if_pos (.inr (.inl HX.out))]), by omega, by have := HPr.out; omega, (HFr.out.vars.trans HVv.out), by have := HFr.out.blocks; omega, by have := HFr.out.loops; omega, by have := HPr.out; simp; omega, by simpa using HR5.out, HA5.out, HK5.out⟩, ?_⟩
              rw [HA5.out.pos, HPo.out]
              have := HPr.out
              omega
            · skip
              by_cases n_cont : tx = [99, 111, 110, 116, 105, 110, 117, 101]
              · have HX := hide n_cont
                have bx : (tx == [99, 111, 110, 116, 105, 110, 117, 101]) = true := by simpa using HX.out
                have b_if : (tx == [105, 102]) = false := by simpa using n_if
                have b_while : (tx == [119, 104, 105, 108, 101]) = false := by simpa using n_while
                have b_emit : (tx == [101, 109, 105, 116]) = false := by simpa using n_emit
                have b_stop : (tx == [115, 116, 111, 112]) = false := by simpa using n_stop
                have b_yield : (tx == [121, 105, 101, 108, 100]) = false := by simpa using n_yield
                have b_break : (tx == [98, 114, 101, 97, 107]) = false := by simpa using n_break
                clear n_cont
                have HC3 := hide (HCr.out W2 HA2.out (by show tx ≠ []; rw [HX.out]; decide))
                go_wp2_with fail
                refine HC3.out.mono ?_
                rintro e w3 ⟨cs, rfl, hSt, hA3, hk3⟩
                have HSt := hide (hSt.mono (Y := fun k => w.heap.size ≤ k ∧ (Value.slice au L.length cu).ownBlock ≠ some k) (fun k (hk : W2.heap.size ≤ k) => ⟨by omega, fun e => by have := (HR2.out.own.lt k e).2; omega⟩))
                have HA3 := hide hA3
                have HK3 := hide (HK2.out.trans hk3)
                have HR3 := hide (HR2.out.keepK hk3 hgl)
                have hw3 := HK3.out.size
                have h10 := hSt.len
                have hone := hSt.one
                obtain ⟨pi, pv, pb, pr, hcs, _⟩ := hSt
                have HH1 := hide h10
                have HH2 := hide hone
                clear hA3 hk3 HC3 HA2 HK2 HR2 HT2 h10 hone 
                have HCs := hide hcs
                rw [hcs]
                clear hcs
                simp only [stL]
                go_wp2_with (at_builtin; refine wpList_append_own_at _ rfl _ _ 55 rfl w.heap.size 92 i9 (.agg (List.toArray stZ)) 10 128 Tryz.underlying55 hi hz hsz9 hb9 rfl (by decide) _ _ _ rfl (HR3.out.own.alloc _) ⟨_, 0, none⟩ 1 1 [.string ⟨rr.1.word.toArray⟩, .string ⟨rr.1.var.name.toArray⟩, .bool rr.1.var.arr, .int .i64 (rr.1.var.size : Nat), .int .i64 (rr.1.var.at' : Nat), pi, pv, pb, .int .i64 (rr.1.oth : Nat), pr] rfl rfl (cells_new _ _ _) (by have := HH2.out; rw [HCs.out] at this; exact this) (by unfold maxLen; omega) (by omega) (by simp; omega) ?_; intro v5 w5 ho5 hg5 _ hbb5; obtain ⟨a5, c5, rfl⟩ := own_shape ho5)
                have hbx := bel1 w3 (.cells #[.string ⟨rr.1.word.toArray⟩, .string ⟨rr.1.var.name.toArray⟩, .bool rr.1.var.arr, .int .i64 (rr.1.var.size : Nat), .int .i64 (rr.1.var.at' : Nat), pi, pv, pb, .int .i64 (rr.1.oth : Nat), pr] 92)
                have HR5 : Hid (Rws w5 w.heap.size (.slice a5 (L.length + 1) c5) (acc ++ [rr.1]) (L ++ [cs])) := hide (Rws.app (HR3.out.keepK (Kp.of (g := g) hbx) hgl) (HSt.out.go (fun k hk hs => ⟨hk, hbx.block k hs⟩)) hg5 (by rw [HCs.out]; exact ho5) hbb5)
                have HK5 : Hid (Kp g w w5) := hide ((HK3.out.alloc (.cells #[.string ⟨rr.1.word.toArray⟩, .string ⟨rr.1.var.name.toArray⟩, .bool rr.1.var.arr, .int .i64 (rr.1.var.size : Nat), .int .i64 (rr.1.var.at' : Nat), pi, pv, pb, .int .i64 (rr.1.oth : Nat), pr] 92)).trans2 hg5 (by simp; omega) (fun j hj => (HR3.out.own.lt j hj).1))
                have HA5 : Hid (RdA w5 g ts F rr.2) := hide (HR.out.to HK5.out ((HA3.out.keep hbx).b.keep (hg5.block g (by simp; have := HA3.out.b.lt; omega) (fun e => by have := (HR3.out.own.lt g e.symm).1; omega))) (HFr.out.vars.trans HVv.out) HA3.out.hat)
                clear hbx ho5 hg5 hbb5 HR3 HK3 HA3 HSt HCs
                (try go_wp2)
                refine ⟨⟨m', acc ++ [rr.1], L ++ [cs], rr.2, HRn.out _ _ (by rw [HOne.out, if_neg n_if, if_neg n_while, if_neg (fun h => h.elim n_emit n_stop), if_pos (.inr (.inr HX.out))]), by omega, by have := HPr.out; omega, (HFr.out.vars.trans HVv.out), by have := HFr.out.blocks; omega, by have := HFr.out.loops; omega, by have := HPr.out; simp; omega, by simpa using HR5.out, HA5.out, HK5.out⟩, ?_⟩
                rw [HA5.out.pos, HPo.out]
                have := HPr.out
                omega
              · skip
                by_cases n_open : tx = [123]
                · have HX := hide n_open
                  have bx : (tx == [123]) = true := by simpa using HX.out
                  have b_if : (tx == [105, 102]) = false := by simpa using n_if
                  have b_while : (tx == [119, 104, 105, 108, 101]) = false := by simpa using n_while
                  have b_emit : (tx == [101, 109, 105, 116]) = false := by simpa using n_emit
                  have b_stop : (tx == [115, 116, 111, 112]) = false := by simpa using n_stop
                  have b_yield : (tx == [121, 105, 101, 108, 100]) = false := by simpa using n_yield
                  have b_break : (tx == [98, 114, 101, 97, 107]) = false := by simpa using n_break
                  have b_cont : (tx == [99, 111, 110, 116, 105, 110, 117, 101]) = false := by simpa using n_cont
                  clear n_open
                  have HC3 := hide (HCb.out W2 HA2.out HG2.out HX.out)
                  go_wp2_with fail
                  refine HC3.out.mono ?_
                  rintro e w3 ⟨vb, rfl, hLb, hA3, hk3⟩
                  obtain ⟨ab, nb, cb, rfl⟩ := ls_shape hLb
                  obtain ⟨cs, hcs0⟩ : ∃ cs : List Value, cs = [.string ⟨#[123]⟩, .string ⟨#[]⟩, .bool false, .int .i64 0, .int .i64 0, .pointer none, .pointer none, .slice ab nb cb, .int .i64 0, .slice none 0 0] := ⟨_, rfl⟩
                  have hSt : StA w3 { Sl.of [123] with body := rb.1 } (New W2) cs := ⟨_, _, _, _, hcs0, rfl, rfl, hLb, rfl⟩
                  have HSt := hide (hSt.mono (Y := fun k => w.heap.size ≤ k ∧ (Value.slice au L.length cu).ownBlock ≠ some k) (fun k (hk : W2.heap.size ≤ k) => ⟨by omega, fun e => by have := (HR2.out.own.lt k e).2; omega⟩))
                  have HA3 := hide hA3
                  have HK3 := hide (HK2.out.trans hk3)
                  have HR3 := hide (HR2.out.keepK hk3 hgl)
                  have hw3 := HK3.out.size
                  have h10 := hSt.len
                  have hone := hSt.one
                  obtain ⟨pi, pv, pb, pr, hcs, _⟩ := hSt
                  have HH1 := hide h10
                  have HH2 := hide hone
                  clear hA3 hk3 HC3 HA2 HK2 HR2 HT2 h10 hone hLb
                  have HCs : Hid (cs = [.string ⟨#[123]⟩, .string ⟨#[]⟩, .bool false, .int .i64 0, .int .i64 0, .pointer none, .pointer none, .slice ab nb cb, .int .i64 0, .slice none 0 0]) := hide hcs0
                  clear hcs hcs0
                  go_wp2_with (at_builtin; refine wpList_append_own_at _ rfl _ _ 55 rfl w.heap.size 92 i9 (.agg (List.toArray stZ)) 10 128 Tryz.underlying55 hi hz hsz9 hb9 rfl (by decide) _ _ _ rfl (HR3.out.own.alloc _) ⟨_, 0, none⟩ 1 1 [.string ⟨#[123]⟩, .string ⟨#[]⟩, .bool false, .int .i64 0, .int .i64 0, .pointer none, .pointer none, .slice ab nb cb, .int .i64 0, .slice none 0 0] rfl rfl (cells_new _ _ _) (by have := HH2.out; rw [HCs.out] at this; exact this) (by unfold maxLen; omega) (by omega) (by simp; omega) ?_; intro v5 w5 ho5 hg5 _ hbb5; obtain ⟨a5, c5, rfl⟩ := own_shape ho5)
                  have hbx := bel1 w3 (.cells #[.string ⟨#[123]⟩, .string ⟨#[]⟩, .bool false, .int .i64 0, .int .i64 0, .pointer none, .pointer none, .slice ab nb cb, .int .i64 0, .slice none 0 0] 92)
                  have HR5 : Hid (Rws w5 w.heap.size (.slice a5 (L.length + 1) c5) (acc ++ [{ Sl.of [123] with body := rb.1 }]) (L ++ [cs])) := hide (Rws.app (HR3.out.keepK (Kp.of (g := g) hbx) hgl) (HSt.out.go (fun k hk hs => ⟨hk, hbx.block k hs⟩)) hg5 (by rw [HCs.out]; exact ho5) hbb5)
                  have HK5 : Hid (Kp g w w5) := hide ((HK3.out.alloc (.cells #[.string ⟨#[123]⟩, .string ⟨#[]⟩, .bool false, .int .i64 0, .int .i64 0, .pointer none, .pointer none, .slice ab nb cb, .int .i64 0, .slice none 0 0] 92)).trans2 hg5 (by simp; omega) (fun j hj => (HR3.out.own.lt j hj).1))
                  have HA5 : Hid (RdA w5 g ts F rb.2) := hide (HR.out.to HK5.out ((HA3.out.keep hbx).b.keep (hg5.block g (by simp; have := HA3.out.b.lt; omega) (fun e => by have := (HR3.out.own.lt g e.symm).1; omega))) (HFb.out.vars.trans HVv.out) HA3.out.hat)
                  clear hbx ho5 hg5 hbb5 HR3 HK3 HA3 HSt HCs
                  (try go_wp2)
                  refine ⟨⟨m', acc ++ [{ Sl.of [123] with body := rb.1 }], L ++ [cs], rb.2, HRn.out _ _ (by rw [HOne.out, if_neg n_if, if_neg n_while, if_neg (fun h => h.elim n_emit n_stop), if_neg (fun h => h.elim n_yield (fun h => h.elim n_break n_cont)), if_pos HX.out]), by omega, by have := (HPb.out HX.out); omega, (HFb.out.vars.trans HVv.out), by have := HFb.out.blocks; omega, by have := HFb.out.loops; omega, by have := (HPb.out HX.out); simp; omega, by simpa using HR5.out, HA5.out, HK5.out⟩, ?_⟩
                  rw [HA5.out.pos, HPo.out]
                  have := (HPb.out HX.out)
                  omega
                · skip
                  have b_if : (tx == [105, 102]) = false := by simpa using n_if
                  have b_while : (tx == [119, 104, 105, 108, 101]) = false := by simpa using n_while
                  have b_emit : (tx == [101, 109, 105, 116]) = false := by simpa using n_emit
                  have b_stop : (tx == [115, 116, 111, 112]) = false := by simpa using n_stop
                  have b_yield : (tx == [121, 105, 101, 108, 100]) = false := by simpa using n_yield
                  have b_break : (tx == [98, 114, 101, 97, 107]) = false := by simpa using n_break
                  have b_cont : (tx == [99, 111, 110, 116, 105, 110, 117, 101]) = false := by simpa using n_cont
                  have b_open : (tx == [123]) = false := by simpa using n_open
                  by_cases hx : tk = 4
                  · have bk : ((tk : Int) == 4) = true := by simp; omega
                    have HX := hide hx
                    clear hx
                    have HC3 := hide (HCa.out W2 HA2.out HG2.out HX.out)
                    go_wp2_with fail
                    refine HC3.out.mono ?_
                    rintro e w3 ⟨cs, rfl, hSt, hA3, hk3⟩
                    have HSt := hide (hSt.mono (Y := fun k => w.heap.size ≤ k ∧ (Value.slice au L.length cu).ownBlock ≠ some k) (fun k (hk : W2.heap.size ≤ k) => ⟨by omega, fun e => by have := (HR2.out.own.lt k e).2; omega⟩))
                    have HA3 := hide hA3
                    have HK3 := hide (HK2.out.trans hk3)
                    have HR3 := hide (HR2.out.keepK hk3 hgl)
                    have hw3 := HK3.out.size
                    have h10 := hSt.len
                    have hone := hSt.one
                    obtain ⟨pi, pv, pb, pr, hcs, _⟩ := hSt
                    have HH1 := hide h10
                    have HH2 := hide hone
                    clear hA3 hk3 HC3 HA2 HK2 HR2 HT2 h10 hone 
                    have HCs := hide hcs
                    rw [hcs]
                    clear hcs
                    simp only [stL]
                    go_wp2_with (at_builtin; refine wpList_append_own_at _ rfl _ _ 55 rfl w.heap.size 92 i9 (.agg (List.toArray stZ)) 10 128 Tryz.underlying55 hi hz hsz9 hb9 rfl (by decide) _ _ _ rfl (HR3.out.own.alloc _) ⟨_, 0, none⟩ 1 1 [.string ⟨ra.1.word.toArray⟩, .string ⟨ra.1.var.name.toArray⟩, .bool ra.1.var.arr, .int .i64 (ra.1.var.size : Nat), .int .i64 (ra.1.var.at' : Nat), pi, pv, pb, .int .i64 (ra.1.oth : Nat), pr] rfl rfl (cells_new _ _ _) (by have := HH2.out; rw [HCs.out] at this; exact this) (by unfold maxLen; omega) (by omega) (by simp; omega) ?_; intro v5 w5 ho5 hg5 _ hbb5; obtain ⟨a5, c5, rfl⟩ := own_shape ho5)
                    have hbx := bel1 w3 (.cells #[.string ⟨ra.1.word.toArray⟩, .string ⟨ra.1.var.name.toArray⟩, .bool ra.1.var.arr, .int .i64 (ra.1.var.size : Nat), .int .i64 (ra.1.var.at' : Nat), pi, pv, pb, .int .i64 (ra.1.oth : Nat), pr] 92)
                    have HR5 : Hid (Rws w5 w.heap.size (.slice a5 (L.length + 1) c5) (acc ++ [ra.1]) (L ++ [cs])) := hide (Rws.app (HR3.out.keepK (Kp.of (g := g) hbx) hgl) (HSt.out.go (fun k hk hs => ⟨hk, hbx.block k hs⟩)) hg5 (by rw [HCs.out]; exact ho5) hbb5)
                    have HK5 : Hid (Kp g w w5) := hide ((HK3.out.alloc (.cells #[.string ⟨ra.1.word.toArray⟩, .string ⟨ra.1.var.name.toArray⟩, .bool ra.1.var.arr, .int .i64 (ra.1.var.size : Nat), .int .i64 (ra.1.var.at' : Nat), pi, pv, pb, .int .i64 (ra.1.oth : Nat), pr] 92)).trans2 hg5 (by simp; omega) (fun j hj => (HR3.out.own.lt j hj).1))
                    have HA5 : Hid (RdA w5 g ts F ra.2) := hide (HR.out.to HK5.out ((HA3.out.keep hbx).b.keep (hg5.block g (by simp; have := HA3.out.b.lt; omega) (fun e => by have := (HR3.out.own.lt g e.symm).1; omega))) (HFa.out.vars.trans HVv.out) HA3.out.hat)
                    clear hbx ho5 hg5 hbb5 HR3 HK3 HA3 HSt HCs
                    (try go_wp2)
                    refine ⟨⟨m', acc ++ [ra.1], L ++ [cs], ra.2, HRn.out _ _ (by rw [HOne.out, if_neg n_if, if_neg n_while, if_neg (fun h => h.elim n_emit n_stop), if_neg (fun h => h.elim n_yield (fun h => h.elim n_break n_cont)), if_neg n_open, if_pos HX.out]), by omega, by have := HPa.out; omega, (HFa.out.vars.trans HVv.out), by have := HFa.out.blocks; omega, by have := HFa.out.loops; omega, by have := HPa.out; simp; omega, by simpa using HR5.out, HA5.out, HK5.out⟩, ?_⟩
                    rw [HA5.out.pos, HPo.out]
                    have := HPa.out
                    omega
                  · have bk : ((tk : Int) == 4) = false := by simp; omega
                    have HV := hide (HRe.out (by rw [HOne.out, if_neg n_if, if_neg n_while, if_neg (fun h => h.elim n_emit n_stop), if_neg (fun h => h.elim n_yield (fun h => h.elim n_break n_cont)), if_neg n_open, if_neg hx]))
                    have HL := hide HR2.out.ls
                    clear hx HT2 HG2 HCi HCw HCb HCt HCr HCa
                    go_wp2
                    (try rw [Exit.noGoto_ret])
                    go_ret
                    exact ⟨_, rfl, by rw [← HV.out]; exact HL.out, by rw [← HV.out]; exact HA2.out, HK2.out⟩
end Go.Proofs.YtiafodeabdhcoaaGreatDoor

namespace Go.Proofs.YtiafodeabdhcoaaGreatDoor
open Go.RowKit
/-- a fault that was noted stays -/
structure Fl (r r' : Rd) : Prop where
  form : r'.form = 0 → r.form = 0
  nam : r'.nam = 0 → r.nam = 0
  dat : r'.dat = 0 → r.dat = 0
theorem Fl.refl (r : Rd) : Fl r r := ⟨id, id, id⟩
theorem Fl.trans {a b c : Rd} (h : Fl a b) (k : Fl b c) : Fl a c := ⟨fun e => h.form (k.form e), fun e => h.nam (k.nam e), fun e => h.dat (k.dat e)⟩
section
variable {ts : List Tk}
theorem fl_step (r : Rd) : Fl r r.step := ⟨id, id, id⟩
theorem fl_form (r : Rd) (l : Nat) : Fl r (r.nform l) := by
  unfold Rd.nform
  split
  · next h => exact ⟨fun _ => h, id, id⟩
  · exact Fl.refl r
theorem fl_name (r : Rd) (l : Nat) : Fl r (r.nname l) := by
  unfold Rd.nname
  split
  · next h => exact ⟨id, fun _ => h, id⟩
  · exact Fl.refl r
theorem fl_dat (r : Rd) (l : Nat) : Fl r (r.ndat l) := by
  unfold Rd.ndat
  split
  · next h => exact ⟨id, id, fun _ => h⟩
  · exact Fl.refl r
theorem fl_dep (r : Rd) (l : Nat) : Fl r (r.ndep l) := by unfold Rd.ndep; split <;> exact ⟨id, id, id⟩
theorem fl_refuse (r : Rd) : Fl r (r.refuse ts) := fl_form r _
theorem fl_take (r : Rd) (s : Tx) : Fl r (r.take ts s) := by unfold Rd.take; split; exact fl_step r; exact fl_refuse r
theorem fl_named (r : Rd) : Fl r (r.named ts).2 := by
  unfold Rd.named
  split
  · exact (fl_step r).trans (fl_name _ _)
  · simp only
    split
    · exact (fl_step r).trans (fl_name _ _)
    · exact fl_step r
theorem fl_px : ∀ (n t lv : Nat) (e : Ex) (r : Rd), Fl r (pxF ts n t lv e r).2
  | 0, _, _, _, r => by simp only [pxF]; exact Fl.refl r
  | n + 1, 0, lv, e, r => by
    simp only [pxF]
    split
    · exact (fl_take r _).trans (fl_px n 0 0 ex0 _)
    · split
      · exact fl_step r
      · split
        · exact fl_step r
        · split
          · split
            · exact (((fl_named r).trans (fl_step _)).trans (fl_px n 1 1 ex0 _)).trans (fl_take _ _)
            · exact fl_named r
          · split
            · exact ((fl_step r).trans (fl_px n 1 1 ex0 _)).trans (fl_take _ _)
            · exact fl_refuse r
  | n + 1, 1, lv, e, r => by
    simp only [pxF]
    exact (fl_px n 0 0 ex0 r).trans (fl_px n 2 lv _ _)
  | n + 1, t + 2, lv, e, r => by
    simp only [pxF]
    split
    · exact Fl.refl r
    · exact ((fl_take r _).trans (fl_px n 1 _ ex0 _)).trans (fl_px n 2 lv _ _)
theorem fl_whole (r : Rd) : Fl r (r.whole ts).2 := by
  unfold Rd.whole
  simp only
  split
  · exact (fl_px _ _ _ _ r).trans (fl_dep _ _)
  · exact fl_px _ _ _ _ r
/-- each token has a line -/
def TsL (ts : List Tk) : Prop := ∀ t ∈ ts, 1 ≤ t.line ∧ t.val ≤ 4294967295
theorem see_real {r : Rd} (h : (r.see ts).kind ≠ 0) : r.form = 0 ∧ r.see ts ∈ ts := by
  unfold Rd.see at h ⊢
  split at h
  · exact absurd rfl h
  · next hf =>
    have hf0 : r.form = 0 := by omega
    refine ⟨hf0, ?_⟩
    rw [if_neg hf]
    cases hq : ts[r.at']? with
    | none => rw [hq] at h; exact absurd rfl h
    | some t => exact List.mem_of_getElem? hq
/-- the variables that were declared lie in the data -/
def VG (r : Rd) : Prop := ∀ v ∈ r.vars, 384 ≤ v.at' ∧ v.at' + v.size ≤ 480 ∧ (v.arr = false → v.size = 1)
theorem nname_nam {r : Rd} {l : Nat} (hl : 1 ≤ l) : (r.nname l).nam ≠ 0 := by
  unfold Rd.nname
  split
  · show l ≠ 0; omega
  · next h => exact h
theorem find_mem {r : Rd} {s : Tx} {v : Vr} (h : r.find s = some v) : v ∈ r.vars := by
  have := List.mem_of_find?_eq_some h
  simpa using this
theorem named_ok {r : Rd} (hT : TsL ts) (hk : (r.see ts).kind = 4) (hn : (r.named ts).2.nam = 0) : (r.named ts).1 ∈ r.vars ∧ (r.named ts).2 = r.step ∧ (r.named ts).1.arr = (r.step).is ts [91] := by
  obtain ⟨_, hm⟩ := see_real (ts := ts) (r := r) (by omega)
  have hl := (hT _ hm).1
  unfold Rd.named at hn ⊢
  cases hf : r.find (r.see ts).text with
  | none =>
    rw [hf] at hn
    exact absurd hn (nname_nam hl)
  | some v =>
    rw [hf] at hn
    simp only at hn ⊢
    by_cases hb : (v.arr != (r.step).is ts [91]) = true
    · rw [if_pos hb] at hn
      exact absurd hn (nname_nam hl)
    · rw [if_neg hb]
      exact ⟨find_mem hf, rfl, by simpa using hb⟩
theorem exK_of {k v : Nat} {vr : Vr} {op : Tx} {l r : Option Ex} {d : Nat} (h1 : k ≤ 5) (h2 : v ≤ 4294967295) (h3 : vr.size ≤ 4294967295) (h4 : vr.at' ≤ 4294967295) (h5 : k = 2 → 384 ≤ vr.at' ∧ vr.at' < 480) (h6 : k = 3 → 384 ≤ vr.at' ∧ vr.at' + vr.size ≤ 480) (h7 : k = 5 → lvT op ≠ 0) (h8 : 3 ≤ k → l ≠ none) (h9 : k = 5 → r ≠ none) (hl : exOK l) (hr : exOK r) : exK ⟨k, v, vr, op, l, r, d⟩ := by
  unfold exK
  refine ⟨h1, h2, h3, h4, h5, h6, h7, h8, h9, ?_, ?_⟩
  · cases l <;> exact hl
  · cases r <;> exact hr
theorem exK_depth {e : Ex} {d : Nat} (h : exK e) : exK { e with depth := d } := by
  obtain ⟨k, v, vr, op, l, r, d'⟩ := e
  unfold exK at h ⊢
  exact h
theorem exK_0 : exK ex0 := exK_of (by decide) (by decide) (by decide) (by decide) (by decide) (by decide) (by decide) (by decide) (by decide) trivial trivial
theorem exN_eq (k v : Nat) (vr : Vr) (op : Tx) (l r : Option Ex) (d : Nat) : exN ⟨k, v, vr, op, l, r, d⟩ = 1 + exO l + exO r := by
  cases l <;> cases r <;> rfl
theorem exN_depth (e : Ex) (d : Nat) : exN { e with depth := d } = exN e := by
  obtain ⟨k, v, vr, op, l, r, d'⟩ := e
  rw [exN_eq, exN_eq]
theorem take_at {r : Rd} {s : Tx} (h : (r.see ts).text = s) : r.take ts s = r.step := by
  unfold Rd.take
  have : r.is ts s = true := by unfold Rd.is; rw [h]; simp
  rw [if_pos this]
theorem VG.fr {r r' : Rd} (h : VG r) (hf : r.Fr r') : VG r' := fun v hv => h v (by rw [← hf.vars]; exact hv)
/-- what is read of a source without a fault is what the coder takes -/
theorem px_ok (hT : TsL ts) : ∀ (n t lv : Nat) (e : Ex) (r : Rd), VG r → exK e → (1 ≤ t → 1 ≤ lv) → (pxF ts n t lv e r).2.form = 0 → (pxF ts n t lv e r).2.nam = 0 → exK (pxF ts n t lv e r).1
  | 0, _, _, _, r, _, _, _, _, _ => by simp only [pxF]; exact exK_0
  | n + 1, 0, lv, e, r, hV, he, hlv, hf, hn => by
    simp only [pxF] at hf hn ⊢
    split at hf
    · next hs =>
      rw [if_pos hs] at hn ⊢
      have ih := px_ok hT n 0 0 ex0 _ (hV.fr (fr_take (ts := ts) r _)) exK_0 (by omega) hf hn
      exact exK_of (by decide) (by decide) (by decide) (by decide) (by decide) (by decide) (fun h => absurd h (by decide)) (fun _ => by simp) (by decide) ih trivial
    · next hs =>
      rw [if_neg hs] at hn ⊢
      split at hf
      · next h3 =>
        rw [if_pos h3] at hn ⊢
        obtain ⟨_, hm⟩ := see_real (ts := ts) (r := r) (by omega)
        exact exK_of (by decide) (hT _ hm).2 (by decide) (by decide) (by decide) (by decide) (by decide) (by decide) (by decide) trivial trivial
      · next h3 =>
        rw [if_neg h3] at hn ⊢
        split at hf
        · next ha =>
          rw [if_pos ha] at hn ⊢
          exact exK_of (by decide) (by decide) (by decide) (by decide) (by decide) (by decide) (by decide) (by decide) (by decide) trivial trivial
        · next ha =>
          rw [if_neg ha] at hn ⊢
          split at hf
          · next h4 =>
            rw [if_pos h4] at hn ⊢
            split at hf
            · next hi =>
              rw [if_pos hi] at hn ⊢
              have hp := fl_px (ts := ts) n 1 1 ex0 (r.named ts).2.step
              have hq := fl_take (ts := ts) (pxF ts n 1 1 ex0 (r.named ts).2.step).2 [93]
              have hn0 : (r.named ts).2.nam = 0 := hp.nam (hq.nam hn)
              obtain ⟨hv, hv2, hv3⟩ := named_ok hT h4 hn0
              obtain ⟨g1, g2, g3⟩ := hV _ hv
              have ih := px_ok hT n 1 1 ex0 _ (hV.fr ((fr_named (ts := ts) r).trans (fr_step _))) exK_0 (by omega) (hq.form hf) (hq.nam hn)
              exact exK_of (by decide) (by decide) (by omega) (by omega) (fun h => absurd h (by decide)) (fun _ => ⟨g1, g2⟩) (by decide) (fun _ => by simp) (by decide) ih trivial
            · next hi =>
              rw [if_neg hi] at hn ⊢
              obtain ⟨hv, hv2, hv3⟩ := named_ok hT h4 hn
              obtain ⟨g1, g2, g3⟩ := hV _ hv
              rw [hv2] at hi
              have ha0 : (r.named ts).1.arr = false := by rw [hv3]; simpa using hi
              have g4 := g3 ha0
              exact exK_of (by decide) (by decide) (by omega) (by omega) (fun _ => ⟨g1, by omega⟩) (fun h => absurd h (by decide)) (by decide) (by decide) (by decide) trivial trivial
          · next h4 =>
            rw [if_neg h4] at hn ⊢
            split at hf
            · next ho =>
              rw [if_pos ho] at hn ⊢
              have hq := fl_take (ts := ts) (pxF ts n 1 1 ex0 r.step).2 [41]
              have ih := px_ok hT n 1 1 ex0 r.step (hV.fr (fr_step _)) exK_0 (by omega) (hq.form hf) (hq.nam hn)
              exact exK_depth ih
            · next ho =>
              rw [if_neg ho]
              exact exK_0
  | n + 1, 1, lv, e, r, hV, he, hlv, hf, hn => by
    simp only [pxF] at hf hn ⊢
    have hp := fl_px (ts := ts) n 2 lv (pxF ts n 0 0 ex0 r).1 (pxF ts n 0 0 ex0 r).2
    have ih := px_ok hT n 0 0 ex0 r hV exK_0 (by omega) (hp.form hf) (hp.nam hn)
    exact px_ok hT n 2 lv _ _ (hV.fr (fr_px n 0 0 ex0 r)) ih (fun _ => hlv (by omega)) hf hn
  | n + 1, t + 2, lv, e, r, hV, he, hlv, hf, hn => by
    simp only [pxF] at hf hn ⊢
    split at hf
    · next hl => rw [if_pos hl]; exact he
    · next hl =>
      rw [if_neg hl] at hn ⊢
      have h1 := hlv (by omega)
      have hp := fl_px (ts := ts) n 2 lv ⟨5, 0, vr0, (r.see ts).text, some e, some (pxF ts n 1 (lvT (r.see ts).text + 1) ex0 (r.take ts (r.see ts).text)).1, max e.depth (1 + (pxF ts n 1 (lvT (r.see ts).text + 1) ex0 (r.take ts (r.see ts).text)).1.depth)⟩ (pxF ts n 1 (lvT (r.see ts).text + 1) ex0 (r.take ts (r.see ts).text)).2
      have ih := px_ok hT n 1 (lvT (r.see ts).text + 1) ex0 _ (hV.fr (fr_take (ts := ts) r _)) exK_0 (by omega) (hp.form hf) (hp.nam hn)
      refine px_ok hT n 2 lv _ _ ((hV.fr (fr_take (ts := ts) r _)).fr (fr_px _ _ _ _ _)) ?_ (fun _ => h1) hf hn
      exact exK_of (by decide) (by decide) (by decide) (by decide) (by decide) (by decide) (fun _ => by omega) (fun _ => by simp) (fun _ => by simp) he ih
/-- how many nodes are read -/
theorem px_n : ∀ (n t lv : Nat) (e : Ex) (r : Rd), exN (pxF ts n t lv e r).1 + 2 * r.at' ≤ (if t ≤ 1 then 1 else exN e) + 2 * (pxF ts n t lv e r).2.at'
  | 0, t, _, e, r => by
    simp only [pxF]
    have : exN ex0 = 1 := rfl
    have h2 : 1 ≤ exN e := by obtain ⟨k, v, vr, op, l, r, d⟩ := e; rw [exN_eq]; omega
    split <;> omega
  | n + 1, 0, lv, e, r => by
    simp only [pxF]
    split
    · have ih := px_n n 0 0 ex0 (r.take ts (r.see ts).text)
      rw [take_at rfl] at ih ⊢
      rw [exN_eq]
      simp only [exO, Rd.step] at ih ⊢
      simp at ih ⊢
      omega
    · split
      · rw [exN_eq]; simp [exO, Rd.step]; omega
      · split
        · rw [exN_eq]; simp [exO, Rd.step]; omega
        · split
          · have h1 := named_at (ts := ts) r
            split
            · have ih := px_n n 1 1 ex0 (r.named ts).2.step
              have h2 := (fr_take (ts := ts) (pxF ts n 1 1 ex0 (r.named ts).2.step).2 [93]).at'
              rw [exN_eq]
              simp only [exO, Rd.step] at ih h2 ⊢
              simp at ih ⊢
              omega
            · rw [exN_eq]; simp [exO]; omega
          · split
            · have ih := px_n n 1 1 ex0 r.step
              have h2 := (fr_take (ts := ts) (pxF ts n 1 1 ex0 r.step).2 [41]).at'
              rw [exN_depth]
              simp only [Rd.step] at ih h2 ⊢
              simp at ih ⊢
              omega
            · have h2 := (fr_refuse (ts := ts) r).at'
              have : exN ex0 = 1 := rfl
              simp
              omega
  | n + 1, 1, lv, e, r => by
    simp only [pxF]
    have ih := px_n n 0 0 ex0 r
    have ih2 := px_n n 2 lv (pxF ts n 0 0 ex0 r).1 (pxF ts n 0 0 ex0 r).2
    simp at ih ih2 ⊢
    omega
  | n + 1, t + 2, lv, e, r => by
    simp only [pxF]
    split
    · simp
    · have ih := px_n n 1 (lvT (r.see ts).text + 1) ex0 (r.take ts (r.see ts).text)
      rw [take_at rfl] at ih ⊢
      have ih2 := px_n n 2 lv ⟨5, 0, vr0, (r.see ts).text, some e, some (pxF ts n 1 (lvT (r.see ts).text + 1) ex0 r.step).1, max e.depth (1 + (pxF ts n 1 (lvT (r.see ts).text + 1) ex0 r.step).1.depth)⟩ (pxF ts n 1 (lvT (r.see ts).text + 1) ex0 r.step).2
      rw [exN_eq] at ih2
      simp only [exO] at ih2
      have hs : r.step.at' = r.at' + 1 := rfl
      simp at ih ih2 ⊢
      omega
theorem whole_n (r : Rd) : exN (r.whole ts).1 + 2 * r.at' ≤ 1 + 2 * (r.whole ts).2.at' := by
  have := px_n (ts := ts) (r.fuel ts) 1 1 ex0 r
  have hd : ∀ (r : Rd) l, (r.ndep l).at' = r.at' := fun r l => by unfold Rd.ndep; split <;> rfl
  unfold Rd.whole
  simp only
  split
  · rw [hd]; simpa using this
  · simpa using this
theorem whole_ok (hT : TsL ts) (r : Rd) (hV : VG r) (hf : (r.whole ts).2.form = 0) (hn : (r.whole ts).2.nam = 0) : exK (r.whole ts).1 := by
  unfold Rd.whole at hf hn ⊢
  simp only at hf hn ⊢
  split at hf
  · next h =>
    rw [if_pos h] at hn
    have := fl_dep (pxF ts (r.fuel ts) 1 1 ex0 r).2 (r.see ts).line
    exact px_ok hT _ 1 1 ex0 r hV exK_0 (by omega) (this.form hf) (this.nam hn)
  · next h =>
    rw [if_neg h] at hn
    exact px_ok hT _ 1 1 ex0 r hV exK_0 (by omega) hf hn
end
end Go.Proofs.YtiafodeabdhcoaaGreatDoor
