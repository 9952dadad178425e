import Derived.Test.YtncbbllmhohnkaaDoorUP
namespace Go.Proofs.YtncbbllmhohnkaaDoor
open Go.RowKit
theorem info_ln : ∃ i, Tryd.prog.info? 60 = some i ∧ i.zero = some (.agg (lnC ln0)) ∧ i.size = 8 ∧ i.bytes = 80 := info_parts (by kernel_rfl)
def lnL (l : Ln) : List Value := [.bool l.wrong, .string ⟨l.label.toArray⟩, .int .i64 l.i.op, .int .i64 l.i.a, .int .i64 l.i.b, .int .i64 l.i.imm, .string ⟨l.name.toArray⟩, .int .i64 l.words]
/-- lines, one behind the other -/
def lns (ls : List Ln) : List Value := ls.flatMap lnL
theorem lns_snoc (ls : List Ln) (l : Ln) : lns (ls ++ [l]) = lns ls ++ lnL l := by simp [lns]
theorem lns_len (ls : List Ln) : (lns ls).length = ls.length * 8 := by
  induction ls with
  | nil => rfl
  | cons l r ih => simp only [lns, List.flatMap_cons, List.length_append, List.length_cons] at ih ⊢; rw [ih]; simp [lnL]; omega
theorem lns_at {ls : List Ln} {k : Nat} (hk : k < ls.length) {j : Nat} (hj : j < 8) : (lns ls)[k * 8 + j]? = (lnL ls[k])[j]? := by
  induction ls generalizing k with
  | nil => simp at hk
  | cons l r ih =>
    cases k with
    | zero =>
      simp only [lns, List.flatMap_cons, Nat.zero_mul, Nat.zero_add, List.getElem_cons_zero]
      rw [List.getElem?_append_left (by simpa [lnL] using hj)]
    | succ k =>
      simp only [lns, List.flatMap_cons, List.getElem_cons_succ]
      rw [List.getElem?_append_right (by simp [lnL]; omega)]
      have e : (k + 1) * 8 + j - (lnL l).length = k * 8 + j := by simp [lnL]; omega
      rw [e]
      exact ih (by simpa using hk)
theorem cells_new (w : World) (cs : List Value) (t : TypeId) : ∀ j u, cs[j]? = some u → (w.alloc (.cells cs.toArray t)).cell? ((⟨w.heap.size, 0, none⟩ : Addr).add j) = some u := by
  intro j u h
  rw [add0, World.cell?_alloc_new]
  simpa using h
theorem lnL_one (l : Ln) : ∀ u ∈ lnL l, u.oneCell' = true := by
  intro u hu
  simp [lnL] at hu
  rcases hu with rfl | rfl | rfl | rfl | rfl | rfl | rfl | rfl <;> rfl
section
variable (w : World)
set_option maxRecDepth 100000 in
set_option maxHeartbeats 2000000 in
theorem readLines_any (s : Tx) (hs : s.length ≤ 16384) (hO : Ops w) : Calls Tryd.prog 22 #[.string ⟨s.toArray⟩] w fun e w' => ∃ v, e = .returned v ∧ w'.ownsRow w.heap.size 60 8 v (splitT 10 s).length (lns ((splitT 10 s).map lineT)) ∧ Below w.heap.size w w' := by
  obtain ⟨i9, hi, hz, hsz, hb⟩ := info_ln
  have HO := hide hO
  clear hO
  go_enter Tryd.func22, Tryd.ntmps22
  go_wp2_with fail
  refine (cutAll_any _ s 10 (by decide) hs).mono ?_
  rintro e w1 ⟨v, rfl, hP, hb1⟩
  have hcnt := split_count 10 s
  have HPl : Hid (∀ p ∈ splitT 10 s, p.length ≤ 16384) := hide (fun p hp => by have := split_len 10 s p hp; omega)
  obtain ⟨ap, cp, rfl, hRow⟩ := Row.of (g := w.heap.size) hP (Nat.lt_succ_self _)
  have HRow := hide hRow
  have HB := hide hb1
  have hs1 := hb1.size
  clear hRow hP hb1
  generalize hps : splitT 10 s = ps at *
  have HPs := hide hps
  clear hps
  go_upto_region 3 with fail
  go_loopw [3, 9] (fun v u wr => ∃ j : Nat, u = .int .i64 (j : Int) ∧ j ≤ ps.length ∧ wr.ownsRow w1.heap.size 60 8 v j (lns ((ps.take j).map lineT)) ∧ Below w1.heap.size w1 wr) (fun _ u _ => ps.length - (intOf u).toNat)
  case atStart => exact ⟨0, rfl, by omega, ⟨rfl, .inl ⟨rfl, rfl⟩⟩, Below.refl _ _⟩
  case round =>
  obtain ⟨j, rfl, hj, hOw, hBw⟩ := hrel
  obtain ⟨au, cu, rfl⟩ := own_shape hOw
  have HOw := hide hOw
  have HBw := hide hBw
  have hsw := hBw.size
  by_cases hlt : j < ps.length
  · obtain ⟨a, rfl, hab, ca⟩ := HRow.out j (by simpa [strs] using hlt)
    have ea : (strs ps)[j]'(by simpa [strs] using hlt) = .string ⟨ps[j].toArray⟩ := by simp [strs]
    rw [ea] at ca
    have cw : wr.cell? (a.add j) = some (.string ⟨ps[j].toArray⟩) := by rw [hBw.cell (cell_blk ca)]; exact ca
    have HE : Hid (lns ((ps.take (j + 1)).map lineT) = lns ((ps.take j).map lineT) ++ lnL (lineT ps[j])) := hide (by rw [List.take_succ_eq_append_getElem hlt, List.map_append, ← lns_snoc]; rfl)
    have hpl := HPl.out ps[j] (List.getElem_mem hlt)
    have HL := hide (readLine_any wr ps[j] hpl ((HO.out.below HB.out).below HBw.out))
    have hd : (j : Int) < (ps.length : Int) := by omega
    clear hOw hBw ea ca
    generalize ps[j] = p at *
    generalize lineT p = L at *
    go_wp2_with fail
    refine HL.out.mono ?_
    rintro e w2 ⟨rfl, hb2⟩
    have HO2 := hide (own_keep HOw.out hb2)
    have HB2 := hide (HBw.out.trans (hb2.mono hsw))
    have hs2 := hb2.size
    clear hb2 HOw HBw HL cw
    simp only [lnC]
    go_upto_region 6 with (at_builtin; refine wpList_append_own _ rfl _ _ 53 rfl w1.heap.size 60 i9 (.agg (lnC ln0)) 8 80 Tryd.underlying53 hi hz hsz hb rfl (by decide) _ _ _ rfl (HO2.out.alloc _) ⟨_, 0, none⟩ 1 1 (lnL L) rfl rfl (cells_new _ _ _) (lnL_one L) (by unfold maxLen; omega) (by omega) (by simp; omega) ?_; intro v3 w3 ho3 hg3 _; obtain ⟨a3, c3, rfl⟩ := own_shape ho3)
    have HO3 : Hid (w3.ownsRow w1.heap.size 60 8 (.slice a3 (j + 1) c3) (j + 1) (lns ((ps.take (j + 1)).map lineT))) := hide (by rw [HE.out]; exact ho3)
    have HB3 := hide ((HB2.out.alloc (by omega) _).grown hg3 (by simp; omega) (fun k hk => (HO2.out.lt k hk).1))
    clear ho3 hg3 HO2 HB2
    go_wp2
    refine ⟨⟨j + 1, by simp, by omega, HO3.out, HB3.out⟩, ?_⟩
    simp [intOf]
    omega
  · obtain rfl : j = ps.length := by omega
    rw [List.take_length] at hOw
    have HO2 := hide hOw
    clear hOw hBw HOw
    go_wp2
    go_ret
    exact ⟨_, rfl, by rw [HPs.out]; exact own_mono HO2.out hs1, HB.out.trans (HBw.out.mono hs1)⟩
end
end Go.Proofs.YtncbbllmhohnkaaDoor
