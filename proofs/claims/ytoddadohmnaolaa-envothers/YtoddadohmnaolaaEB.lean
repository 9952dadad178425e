import Derived.Test.YtoddadohmnaolaaEA
namespace Go.Proofs.Ytoddadohmnaolaa
open Go.ChangeShapes Go.WideShapes Go.ChangeAt Go.RowKit Go.Deep

theorem results_row2 {P : Program} {fn : Func} {p u : Tmp} {ty : TypeId} (h : fn.results = #[.cell p ty, .tmp u]) (tmps : Array Value) (w : World) (g : Nat) (t : TypeId) (cs : Array Value) (fr : Nat × Nat) (d : TypeDesc)
    (hp : tmps.getD p undef = .pointer (some ⟨g, 0, none⟩)) (hg : w.heap[g]? = some (.cells cs t fr))
    (hu : P.underlying ty = some d) (hd : (match d with | .struct _ | .array _ _ => true | _ => false) = true) (hi : (P.info? ty).map (·.size) = some cs.size) :
    (results fn tmps).run P w = .ok (.tuple #[.agg cs, tmps.getD u undef]) w := by
  rw [results_cell_tmp h, hp]
  simp [asAddr, run_loadVar_row w g t ty cs fr d hg hu hd hi]
section
variable (w : World) (F : Nat → Prop) (T : Nat) (rs : List (Option Er)) (last : Int)
set_option maxRecDepth 8000 in
set_option maxHeartbeats 3200000 in
theorem info_any (h : Et w F T rs last) (k : Nat) (r : Er) (hr : rs[k]? = some (some r)) : Calls Try.prog 15 #[.pointer (some ⟨T, 0, none⟩), .int .i64 (k : Int)] w fun x w' => x = .returned (.tuple #[.agg r.told.head.toArray, .int .i64 0]) ∧ Below w.heap.size w w' := by
  have h0 : Eb (w.alloc (.cells Er.nil.head.toArray 41)) w.heap.size Er.nil := Eb.new _ _
  have hb0 := (Below.refl w.heap.size w).alloc (Nat.le_refl _) (.cells Er.nil.head.toArray 41)
  obtain ⟨S, G, m, h⟩ := h
  have h := h.below hb0
  have HB0 := hide hb0
  have H0 := hide h0
  clear hb0 h0
  go_enter Try.func15, Try.ntmps15
  go_upto_region 1 with fail
  show Code.wp _ _ _ _ (w.alloc (.cells Er.nil.head.toArray 41))
  generalize w.alloc (.cells Er.nil.head.toArray 41) = w1 at *
  have c0 := h.cell.1
  have HG := hide (getL_any _ G S m h.tab (k : Int))
  rcases h.cases (k : Int) with ⟨_, h1⟩ | ⟨k', b, r', e1, hm, h3, h4, _, hR⟩
  · rw [look_nat, hr] at h1; cases h1
  · obtain rfl : k = k' := by omega
    rw [hr] at h3; cases h3
    rw [h4] at HG
    simp only [ptr, Option.isSome_some] at HG
    have HW := hide (tell_any w1 b r hR)
    clear h h4 hR
    go_wp2_with fail
    refine HG.out.mono ?_
    rintro e1 w2 ⟨rfl, rfl⟩
    go_wp2_with fail
    refine HW.out.mono ?_
    rintro e1 w2 ⟨rfl, hb⟩
    have H2 : Hid (Eb w2 w.heap.size Er.nil) := hide (H0.out.keep (hb.block _ H0.out.lt))
    have HB2 : Hid (Below w.heap.size w w2) := hide (HB0.out.trans (hb.mono HB0.out.size))
    obtain ⟨t, ht⟩ : ∃ t, r.told = t := ⟨_, rfl⟩
    rw [ht]
    have HT := hide ht
    clear ht
    have HE4 := hide (H2.out.lay t).out
    have HB4 := hide (below_setCells HB2.out (Nat.le_refl _) 0 t.head)
    clear hb HB0 H0 HG HW c0
    go_wp2_with (refine storeE t ?nw _ _ rfl w.heap.size Er.nil ?nx ?ny ?nz ?_; rotate_left 4; generalize w2.setCells w.heap.size 0 t.head = w4 at *)
    try (case nw => rfl)
    try (case nx => rfl)
    try (case ny => rfl)
    case nz => exact H2.out
    refine bodyPost_ret (results_row2 rfl _ _ w.heap.size 41 t.head.toArray (0, 0) _ rfl HE4.out Try.underlying41 rfl (by rw [List.size_toArray, head_len]; exact infoE)) rfl ?_
    exact ⟨by rw [HT.out]; rfl, HB4.out⟩
end
/-- registers -/
def regsL (g : Nat → Nat) (pc : Nat) : List Value := [.int .u32 (g 0 : Nat), .int .u32 (g 1 : Nat), .int .u32 (g 2 : Nat), .int .u32 (g 3 : Nat), .int .u32 (g 4 : Nat), .int .u32 (g 5 : Nat), .int .u32 (g 6 : Nat), .int .u32 (g 7 : Nat), .int .u32 (pc : Nat)]
theorem regs_len (g : Nat → Nat) (pc : Nat) : (regsL g pc).length = 9 := rfl
theorem regs_one (g : Nat → Nat) (pc : Nat) : ∀ u ∈ regsL g pc, u.oneCell' = true := by
  intro u hu
  simp [regsL] at hu
  rcases hu with rfl | rfl | rfl | rfl | rfl | rfl | rfl | rfl | rfl <;> rfl
theorem infoR : (Try.prog.info? 33).map (·.size) = some 9 := by kernel_rfl
theorem Rb.regs {w : World} {b : Nat} {e : Er} (h : Rb w b e) (g : Nat → Nat) (pc : Nat) : Rb (w.setCells b 6 (regsL g pc)) b { e with rg := g, pc := pc } := by
  have h1 := heap_setCells_row b 82 (regsL g pc) 6 w _ h.out
  rw [show setsL e.cells 6 (regsL g pc) = ({ e with rg := g, pc := pc } : Er).cells by simp only [Er.cells, regsL, setsL, List.set]] at h1
  exact ⟨h1⟩
section
variable (w : World) (F : Nat → Prop) (T : Nat) (rs : List (Option Er)) (last : Int)
set_option maxRecDepth 8000 in
set_option maxHeartbeats 3200000 in
theorem setRegs_any (h : Et w F T rs last) (k : Nat) (r : Er) (hr : rs[k]? = some (some r)) (g : Nat → Nat) (pc : Nat) : Calls Try.prog 11 #[.pointer (some ⟨T, 0, none⟩), .int .i64 (k : Int), .agg (regsL g pc).toArray] w fun x w' => x = .returned (.int .i64 0) ∧ Et w' F T (rs.set k (some { r with rg := g, pc := pc })) last ∧ Mod F w w' := by
  have h0 := heap_alloc_new w (.cells (regsL g pc).toArray 33)
  have hb0 := (Below.refl w.heap.size w).alloc (Nat.le_refl _) (.cells (regsL g pc).toArray 33)
  obtain ⟨S, G, m, h⟩ := h
  have h := h.below hb0
  have hlt := h.lt
  have HM0 : Hid (Mod F w (w.alloc (.cells (regsL g pc).toArray 33))) := hide ((Mod.refl F w).alloc _)
  clear hb0
  go_enter Try.func11, Try.ntmps11
  go_upto_region 1 with fail
  show Code.wp _ _ _ _ (w.alloc (.cells (regsL g pc).toArray 33))
  have H0 := hide h0
  clear h0
  generalize w.alloc (.cells (regsL g pc).toArray 33) = w1 at *
  have c0 := h.cell.1
  have HG := hide (getL_any _ G S m h.tab (k : Int))
  rcases h.cases (k : Int) with ⟨_, h1⟩ | ⟨k', b, r', e1, hm, h3, h4, _, hR⟩
  · rw [look_nat, hr] at h1; cases h1
  · obtain rfl : k = k' := by omega
    rw [hr] at h3; cases h3
    rw [h4] at HG
    simp only [ptr, Option.isSome_some] at HG
    have HF := hide (Et.upd h hm (hR.regs g pc) ((At.refl w1 b).sets 6 (regsL g pc)))
    have HR := hide hR
    clear h h4 hR hlt
    go_wp2_with fail
    refine HG.out.mono ?_
    rintro e1 w2 ⟨rfl, rfl⟩
    go_upto_region 4 with fail
    have p0 : w2.cell? ⟨w.heap.size, 0, none⟩ = some (.int .u32 (g 0 : Nat)) := by rw [cell_of_row _ _ _ _ _ _ H0.out]; rfl
    have q0 := HR.out.get (j := 6) rfl
    have f0 := HR.out.frz 6
    have p1 : w2.cell? ⟨w.heap.size, 1, none⟩ = some (.int .u32 (g 1 : Nat)) := by rw [cell_of_row _ _ _ _ _ _ H0.out]; rfl
    have q1 := HR.out.get (j := 7) rfl
    have f1 := HR.out.frz 7
    have p2 : w2.cell? ⟨w.heap.size, 2, none⟩ = some (.int .u32 (g 2 : Nat)) := by rw [cell_of_row _ _ _ _ _ _ H0.out]; rfl
    have q2 := HR.out.get (j := 8) rfl
    have f2 := HR.out.frz 8
    have p3 : w2.cell? ⟨w.heap.size, 3, none⟩ = some (.int .u32 (g 3 : Nat)) := by rw [cell_of_row _ _ _ _ _ _ H0.out]; rfl
    have q3 := HR.out.get (j := 9) rfl
    have f3 := HR.out.frz 9
    have p4 : w2.cell? ⟨w.heap.size, 4, none⟩ = some (.int .u32 (g 4 : Nat)) := by rw [cell_of_row _ _ _ _ _ _ H0.out]; rfl
    have q4 := HR.out.get (j := 10) rfl
    have f4 := HR.out.frz 10
    have p5 : w2.cell? ⟨w.heap.size, 5, none⟩ = some (.int .u32 (g 5 : Nat)) := by rw [cell_of_row _ _ _ _ _ _ H0.out]; rfl
    have q5 := HR.out.get (j := 11) rfl
    have f5 := HR.out.frz 11
    have p6 : w2.cell? ⟨w.heap.size, 6, none⟩ = some (.int .u32 (g 6 : Nat)) := by rw [cell_of_row _ _ _ _ _ _ H0.out]; rfl
    have q6 := HR.out.get (j := 12) rfl
    have f6 := HR.out.frz 12
    have p7 : w2.cell? ⟨w.heap.size, 7, none⟩ = some (.int .u32 (g 7 : Nat)) := by rw [cell_of_row _ _ _ _ _ _ H0.out]; rfl
    have q7 := HR.out.get (j := 13) rfl
    have f7 := HR.out.frz 13
    have p8 : w2.cell? ⟨w.heap.size, 8, none⟩ = some (.int .u32 (pc : Nat)) := by rw [cell_of_row _ _ _ _ _ _ H0.out]; rfl
    have q8 := HR.out.get (j := 14) rfl
    have f8 := HR.out.frz 14
    go_upto_region 5 with fail
    show Code.wp _ _ _ _ (w2.setCells b 6 (regsL g pc))
    generalize w2.setCells b 6 (regsL g pc) = w4 at *
    clear p0 p1 p2 p3 p4 p5 p6 p7 p8 q0 q1 q2 q3 q4 q5 q6 q7 q8 f0 f1 f2 f3 f4 f5 f6 f7 f8
    go_wp2
    go_ret
    exact ⟨rfl, HF.out.1, HM0.out.trans HF.out.2⟩
end
end Go.Proofs.Ytoddadohmnaolaa
