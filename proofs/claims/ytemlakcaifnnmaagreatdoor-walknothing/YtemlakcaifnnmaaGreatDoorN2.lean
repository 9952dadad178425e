import Derived.Test.YtemlakcaifnnmaaGreatDoorN1
namespace Go.Proofs.YtemlakcaifnnmaaGreatDoor
open Go.ChangeShapes Go.WideShapes Go.ChangeAt Go.RowKit Go.Deep

theorem results_row3 {P : Program} {fn : Func} {p u v : Tmp} {ty : TypeId} (h : fn.results = #[.cell p ty, .tmp u, .tmp v]) (tmps : Array Value) (w : World) (g : Nat) (t : TypeId) (cs : Array Value) (fr : Nat × Nat) (d : TypeDesc)
    (hp : tmps.getD p undef = .pointer (some ⟨g, 0, none⟩)) (hg : w.heap[g]? = some (.cells cs t fr))
    (hu : P.underlying ty = some d) (hd : (match d with | .struct _ | .array _ _ => true | _ => false) = true) (hi : (P.info? ty).map (·.size) = some cs.size) :
    (results fn tmps).run P w = .ok (.tuple #[.agg cs, tmps.getD u undef, tmps.getD v undef]) w := by
  have hp' : tmps[p]?.getD undef = .pointer (some ⟨g, 0, none⟩) := by simpa using hp
  unfold results
  simp [h, hp', asAddr, run_loadVar_row w g t ty cs fr d hg hu hd hi]
set_option maxRecDepth 8000 in
set_option maxHeartbeats 3200000 in
theorem read_nil (w : World) (e s : Int) : Calls Tryz.prog 4 #[.pointer none, .int .i64 e, .int .i64 s] w fun x w' => x = .returned (.tuple #[.agg fz, .slice none 0 0, .int .i64 1]) ∧ Below w.heap.size w w' := by
  have HO := hide (open_nil (w.alloc (.cells fz 28)) e s 1)
  unfold fz at *
  go_enter Tryz.func4, Tryz.ntmps4
  go_wp2_with fail
  refine HO.out.mono ?_
  rintro x w1 ⟨rfl, hb⟩
  have h0 : w1.heap[w.heap.size]? = some (.cells fz 28 (0, 0)) := (hb.block w.heap.size (by simp)).trans (heap_alloc_new w _)
  have hb0 : Below w.heap.size w w1 := ((Below.refl w.heap.size w).alloc (Nat.le_refl _) _).trans (hb.mono (by simp))
  obtain ⟨N, hN⟩ : ∃ N, N = w.heap.size := ⟨_, rfl⟩
  rw [← hN] at h0 hb0
  have HN := hide hN
  have HB := hide hb0
  have H0 := hide h0
  clear HO hb hb0 h0
  rw [← hN]
  clear hN
  unfold tz at *
  go_upto_region 2 with fail
  have hb2 : Below w1.heap.size w1 (w1.alloc (.cells #[.pointer none, .int .i64 0, .int .i64 0, .int .i64 0] 45)) := (Below.refl _ _).alloc (Nat.le_refl _) _
  have H2 := hide ((hb2.block N (Array.getElem?_eq_some_iff.1 H0.out).1).trans H0.out)
  have HB2 := hide (HB.out.trans (hb2.mono (by have := (Array.getElem?_eq_some_iff.1 H0.out).1; omega)))
  clear hb2 H0 HB
  generalize w1.alloc (.cells #[.pointer none, .int .i64 0, .int .i64 0, .int .i64 0] 45) = w2 at *
  have c0 : w2.cell? ⟨N, 0, none⟩ = some (.slice none 0 0) := cell_of_row _ _ 0 _ _ _ H2.out
  have c1 : w2.cell? ⟨N, 1, none⟩ = some (.slice none 0 0) := cell_of_row _ _ 1 _ _ _ H2.out
  have c2 : w2.cell? ⟨N, 2, none⟩ = some (.slice none 0 0) := cell_of_row _ _ 2 _ _ _ H2.out
  have c3 : w2.cell? ⟨N, 3, none⟩ = some (.slice none 0 0) := cell_of_row _ _ 3 _ _ _ H2.out
  have c4 : w2.cell? ⟨N, 4, none⟩ = some (.slice none 0 0) := cell_of_row _ _ 4 _ _ _ H2.out
  have z0 := frozen_of_row _ _ 0 _ _ H2.out
  have z1 := frozen_of_row _ _ 1 _ _ H2.out
  have z2 := frozen_of_row _ _ 2 _ _ H2.out
  have z3 := frozen_of_row _ _ 3 _ _ H2.out
  have z4 := frozen_of_row _ _ 4 _ _ H2.out
  have h9 := heap_setCell_same _ N 4 _ _ (.slice none 0 0) (heap_setCell_same _ N 3 _ _ (.slice none 0 0) (heap_setCell_same _ N 2 _ _ (.slice none 0 0) (heap_setCell_same _ N 1 _ _ (.slice none 0 0) (heap_setCell_same _ N 0 _ _ (.slice none 0 0) H2.out))))
  have H9 := hide h9
  have HB9 := hide (((((HB2.out.setCell (p := ⟨N, 0, none⟩) (Nat.le_refl _) (.slice none 0 0)).setCell (p := ⟨N, 1, none⟩) (Nat.le_refl _) (.slice none 0 0)).setCell (p := ⟨N, 2, none⟩) (Nat.le_refl _) (.slice none 0 0)).setCell (p := ⟨N, 3, none⟩) (Nat.le_refl _) (.slice none 0 0)).setCell (p := ⟨N, 4, none⟩) (Nat.le_refl _) (.slice none 0 0))
  clear h9 H2 HB2
  go_wp2
  refine bodyPost_ret (results_row3 rfl _ _ N 28 fz (0, 0) _ rfl H9.out Tryz.underlying28 rfl infoF) rfl ?_
  exact ⟨rfl, by rw [← HN.out]; exact HB9.out⟩
/-- two forests that hold nothing -/
def twoF (w : World) : World := (w.alloc (.cells #[.slice none 0 0, .slice none 0 0, .slice none 0 0, .slice none 0 0, .slice none 0 0] 28)).alloc (.cells #[.slice none 0 0, .slice none 0 0, .slice none 0 0, .slice none 0 0, .slice none 0 0] 28)
theorem twoF_at (w : World) : (twoF w).heap[w.heap.size]? = some (.cells fz 28 (0, 0)) ∧ (twoF w).heap[w.heap.size + 1]? = some (.cells fz 28 (0, 0)) := by
  refine ⟨?_, ?_⟩
  · unfold twoF
    rw [heap_alloc_old _ _ (by simp)]
    exact heap_alloc_new _ _
  · have h := heap_alloc_new (w.alloc (.cells #[.slice none 0 0, .slice none 0 0, .slice none 0 0, .slice none 0 0, .slice none 0 0] 28)) (.cells #[.slice none 0 0, .slice none 0 0, .slice none 0 0, .slice none 0 0, .slice none 0 0] 28)
    have e : (w.alloc (.cells #[.slice none 0 0, .slice none 0 0, .slice none 0 0, .slice none 0 0, .slice none 0 0] 28)).heap.size = w.heap.size + 1 := by simp
    rw [e] at h
    exact h
theorem twoF_b (w : World) : Below w.heap.size w (twoF w) := ((Below.refl w.heap.size w).alloc (Nat.le_refl _) _).alloc (by simp) _
set_option maxRecDepth 20000 in
set_option maxHeartbeats 6400000 in
theorem same_nil (w : World) : Calls Tryz.prog 9 #[.agg fz, .agg fz] w fun x w' => x = .returned (.bool true) ∧ Below w.heap.size w w' := by
  have HA := hide (twoF_at w)
  have HB := hide (twoF_b w)
  unfold fz
  obtain ⟨N, hN⟩ : ∃ N, N = w.heap.size := ⟨_, rfl⟩
  rw [← hN] at HA HB
  have HN := hide hN
  go_enter Tryz.func9, Tryz.ntmps9
  go_upto_region 1 with fail
  show Code.wp _ _ _ _ (twoF w)
  generalize twoF w = w1 at *
  simp only [← hN]
  clear hN
  have c0 : w1.cell? ⟨N, 0, none⟩ = some (.slice none 0 0) := cell_of_row _ _ 0 _ _ _ HA.out.1
  have c1 : w1.cell? ⟨N, 1, none⟩ = some (.slice none 0 0) := cell_of_row _ _ 1 _ _ _ HA.out.1
  have c2 : w1.cell? ⟨N, 2, none⟩ = some (.slice none 0 0) := cell_of_row _ _ 2 _ _ _ HA.out.1
  have c3 : w1.cell? ⟨N, 3, none⟩ = some (.slice none 0 0) := cell_of_row _ _ 3 _ _ _ HA.out.1
  have c4 : w1.cell? ⟨N, 4, none⟩ = some (.slice none 0 0) := cell_of_row _ _ 4 _ _ _ HA.out.1
  have d0 : w1.cell? ⟨N + 1, 0, none⟩ = some (.slice none 0 0) := cell_of_row _ _ 0 _ _ _ HA.out.2
  have d1 : w1.cell? ⟨N + 1, 1, none⟩ = some (.slice none 0 0) := cell_of_row _ _ 1 _ _ _ HA.out.2
  have d2 : w1.cell? ⟨N + 1, 2, none⟩ = some (.slice none 0 0) := cell_of_row _ _ 2 _ _ _ HA.out.2
  have d3 : w1.cell? ⟨N + 1, 3, none⟩ = some (.slice none 0 0) := cell_of_row _ _ 3 _ _ _ HA.out.2
  have d4 : w1.cell? ⟨N + 1, 4, none⟩ = some (.slice none 0 0) := cell_of_row _ _ 4 _ _ _ HA.out.2
  go_upto_region 4 with fail
  go_loopw [5] (fun x wr => x = .int .i64 0 ∧ wr = w1) (fun _ _ => 0)
  case atStart => exact ⟨rfl, rfl⟩
  case round =>
  obtain ⟨rfl, hr0⟩ := hrel
  subst hr0
  go_upto_region 9 with fail
  go_loopw [6] (fun x v => x = .int .i64 0 ∧ v = wr) (fun _ _ => 0)
  case atStart => exact ⟨rfl, rfl⟩
  case round =>
  obtain ⟨rfl, hr1⟩ := hrel
  subst hr1
  go_upto_region 14 with fail
  go_loopw [7] (fun x v => x = .int .i64 0 ∧ v = wr) (fun _ _ => 0)
  case atStart => exact ⟨rfl, rfl⟩
  case round =>
  obtain ⟨rfl, hr2⟩ := hrel
  subst hr2
  go_upto_region 19 with fail
  go_loopw [8] (fun x v => x = .int .i64 0 ∧ v = wr) (fun _ _ => 0)
  case atStart => exact ⟨rfl, rfl⟩
  case round =>
  obtain ⟨rfl, hr3⟩ := hrel
  subst hr3
  go_upto_region 24 with fail
  go_loopw [9] (fun x v => x = .int .i64 0 ∧ v = wr) (fun _ _ => 0)
  case atStart => exact ⟨rfl, rfl⟩
  case round =>
  obtain ⟨rfl, hr4⟩ := hrel
  subst hr4
  go_wp2
  go_ret
  exact ⟨rfl, by rw [← HN.out]; exact HB.out⟩
set_option maxRecDepth 20000 in
set_option maxHeartbeats 6400000 in
theorem nothing_walk (w : World) (e s : Int) (on : Bool) : Calls Tryz.prog 3 #[.int .i64 e, .int .i64 s, .bool on] w fun x w' => x = .returned (.bool true) ∧ Below w.heap.size w w' := by
  have HR := hide (read_nil w e s)
  go_enter Tryz.func3, Tryz.ntmps3
  go_wp2_with fail
  refine HR.out.mono ?_
  rintro x w1 ⟨rfl, hb⟩
  have hb2 : Below w1.heap.size w1 (w1.alloc (.cells #[.slice none 0 0, .slice none 0 0, .slice none 0 0, .slice none 0 0, .slice none 0 0] 28)) := (Below.refl _ _).alloc (Nat.le_refl _) _
  have H2 := hide (heap_alloc_new w1 (.cells #[.slice none 0 0, .slice none 0 0, .slice none 0 0, .slice none 0 0, .slice none 0 0] 28))
  have HB2 := hide (hb.trans (hb2.mono hb.size))
  clear hb hb2 HR
  unfold fz
  go_upto_region 2 with fail
  generalize w1.alloc (.cells #[.slice none 0 0, .slice none 0 0, .slice none 0 0, .slice none 0 0, .slice none 0 0] 28) = w2 at *
  generalize w1.heap.size = M at *
  have HD := hide (dirty_nil w2 e s)
  go_wp2_with fail
  refine HD.out.mono ?_
  rintro x w3 ⟨rfl, hb⟩
  have H3 := hide ((hb.block M (Array.getElem?_eq_some_iff.1 H2.out).1).trans H2.out)
  have HB3 := hide (HB2.out.trans (hb.mono HB2.out.size))
  clear hb H2 HB2 HD
  have HD := hide (clean_nil w3 e s)
  go_wp2_with fail
  refine HD.out.mono ?_
  rintro x w4 ⟨rfl, hb⟩
  have H4 := hide ((hb.block M (Array.getElem?_eq_some_iff.1 H3.out).1).trans H3.out)
  have HB4 := hide (HB3.out.trans (hb.mono HB3.out.size))
  clear hb H3 HB3 HD
  have HD := hide (freeze_nil w4 e s on)
  go_wp2_with fail
  refine HD.out.mono ?_
  rintro x w5 ⟨rfl, hb⟩
  have H5 := hide ((hb.block M (Array.getElem?_eq_some_iff.1 H4.out).1).trans H4.out)
  have HB5 := hide (HB4.out.trans (hb.mono HB4.out.size))
  clear hb H4 HB4 HD
  have HD := hide (holds_nil w5 e s)
  go_wp2_with fail
  refine HD.out.mono ?_
  rintro x w6 ⟨rfl, hb⟩
  have H6 := hide ((hb.block M (Array.getElem?_eq_some_iff.1 H5.out).1).trans H5.out)
  have HB6 := hide (HB5.out.trans (hb.mono HB5.out.size))
  clear hb H5 HB5 HD
  have c0 : w6.cell? ⟨M, 0, none⟩ = some (.slice none 0 0) := cell_of_row _ _ 0 _ _ _ H6.out
  have c1 : w6.cell? ⟨M, 1, none⟩ = some (.slice none 0 0) := cell_of_row _ _ 1 _ _ _ H6.out
  have c2 : w6.cell? ⟨M, 2, none⟩ = some (.slice none 0 0) := cell_of_row _ _ 2 _ _ _ H6.out
  have c3 : w6.cell? ⟨M, 3, none⟩ = some (.slice none 0 0) := cell_of_row _ _ 3 _ _ _ H6.out
  have c4 : w6.cell? ⟨M, 4, none⟩ = some (.slice none 0 0) := cell_of_row _ _ 4 _ _ _ H6.out
  have HS := same_nil w6
  unfold fz at HS
  have HD := hide HS
  clear HS
  go_wp2_with fail
  refine HD.out.mono ?_
  rintro x w7 ⟨rfl, hb⟩
  have HB7 := hide (HB6.out.trans (hb.mono HB6.out.size))
  clear hb H6 HB6 HD c0 c1 c2 c3 c4
  go_wp2
  go_ret
  exact ⟨rfl, HB7.out⟩
end Go.Proofs.YtemlakcaifnnmaaGreatDoor
