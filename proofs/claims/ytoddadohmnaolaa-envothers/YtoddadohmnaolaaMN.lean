import Derived.Test.YtoddadohmnaolaaMF
import Derived.Test.YtoddadohmnaolaaMK
namespace Go.Proofs.Ytoddadohmnaolaa
open Go.ChangeShapes Go.WideShapes Go.ChangeAt Go.RowKit Go.Deep Go.Shelf Go.Great

section
variable {w : World} {F : Nat → Prop} {T B : Nat} {rs : List (Option Er)} {last : Int}
set_option maxRecDepth 100000 in
set_option maxHeartbeats 25600000 in
theorem comes_in (h : Ns w F T B rs last) (kd t e n m : Int) (q : Qt) (g : Nat → Nat) (pc : Nat) (on : Bool) (hk : kd = 3) (h0 : 0 ≤ e) (h1 : e < 16) (cs : List Value) (hT : Tc cs (tf rs) (tg rs)) :
    Calls Try.prog 28 #[.pointer (some ⟨B, 0, none⟩), .pointer (some ⟨T, 0, none⟩), .agg #[.int .i64 kd, .int .i64 t, .int .i64 e, .int .i64 n, .int .i64 m, .int .i64 q.f, .int .i64 q.e, .int .i64 q.x, .int .u32 (g 0 : Nat), .int .u32 (g 1 : Nat), .int .u32 (g 2 : Nat), .int .u32 (g 3 : Nat), .int .u32 (g 4 : Nat), .int .u32 (g 5 : Nat), .int .u32 (g 6 : Nat), .int .u32 (g 7 : Nat), .int .u32 (pc : Nat), .bool on], .agg cs.toArray] w fun x w' => x = .returned (.bool true) ∧ Nx w F T B (nS kd e n m q g pc on rs last) (nL kd e n q rs last) w' := by
  have hNo : ∀ W, Ns W F T B rs last → Calls Try.prog 16 #[.pointer (some ⟨B, 0, none⟩), .pointer (some ⟨T, 0, none⟩), .agg #[.int .i64 kd, .int .i64 t, .int .i64 e, .int .i64 n, .int .i64 m, .int .i64 q.f, .int .i64 q.e, .int .i64 q.x, .int .u32 (g 0 : Nat), .int .u32 (g 1 : Nat), .int .u32 (g 2 : Nat), .int .u32 (g 3 : Nat), .int .u32 (g 4 : Nat), .int .u32 (g 5 : Nat), .int .u32 (g 6 : Nat), .int .u32 (g 7 : Nat), .int .u32 (pc : Nat), .bool on]] W fun x w' => x = .returned (.bool true) ∧ Nx W F T B (nS kd e n m q g pc on rs last) (nL kd e n q rs last) w' := fun W hW => noted_ex hW kd t e n m q g pc on
  have hCm : Cm rs (nS kd e n m q g pc on rs last) (if kd = 2 then e else if 0 ≤ e ∧ e < 16 then (tf rs e.toNat).pa else -1) := by
    subst hk; exact cm_destroy h.iv
  obtain ⟨rs2, hrs2⟩ : ∃ x, nS kd e n m q g pc on rs last = x := ⟨_, rfl⟩
  obtain ⟨last2, hlast2⟩ : ∃ x, nL kd e n q rs last = x := ⟨_, rfl⟩
  rw [hrs2] at hCm
  rw [hrs2, hlast2] at hNo
  rw [hrs2, hlast2]
  clear hrs2 hlast2
  obtain ⟨os, hos⟩ : ∃ os, os = opL kd t e n m q g pc on := ⟨_, rfl⟩
  have hoa : (#[.int .i64 kd, .int .i64 t, .int .i64 e, .int .i64 n, .int .i64 m, .int .i64 q.f, .int .i64 q.e, .int .i64 q.x, .int .u32 (g 0 : Nat), .int .u32 (g 1 : Nat), .int .u32 (g 2 : Nat), .int .u32 (g 3 : Nat), .int .u32 (g 4 : Nat), .int .u32 (g 5 : Nat), .int .u32 (g 6 : Nat), .int .u32 (g 7 : Nat), .int .u32 (pc : Nat), .bool on] : Array Value) = os.toArray := by rw [hos]; rfl
  rw [hoa] at hNo
  rw [hoa]
  have HO := hide hos
  have HCmm := hide hCm
  have HNo := hide hNo
  have HT1 := hide hT
  clear hos hoa hCm hNo hT
  have hb1 := (Below.refl w.heap.size w).alloc (Nat.le_refl _) (.cells os.toArray 47)
  have a1 := heap_alloc_new w (.cells os.toArray 47)
  have hn1 : (w.alloc (.cells os.toArray 47)).heap.size = w.heap.size + 1 := by simp
  have hb2 := hb1.alloc (by simp) (.cells cs.toArray 52)
  have a2 := heap_alloc_new (w.alloc (.cells os.toArray 47)) (.cells cs.toArray 52)
  have hn2 : ((w.alloc (.cells os.toArray 47)).alloc (.cells cs.toArray 52)).heap.size = w.heap.size + 2 := by simp
  rw [hn1] at a2
  have b1 : ((w.alloc (.cells os.toArray 47)).alloc (.cells cs.toArray 52)).heap[w.heap.size]? = some (.cells os.toArray 47 (0, 0)) := by rw [Below.heap_alloc _ _ _ (by rw [hn1]; omega)]; exact a1
  have HNs := hide (h.below hb2)
  have HB2 := hide hb2
  have A1 := hide b1
  have A2 := hide a2
  have HBl := hide h.bq.lt
  have HFl := hide h.et.lt
  have HFB := hide h.ne
  have HSz := hide hn2
  clear h hb1 a1 hn1 hb2 a2 hn2 b1
  go_enter Try.func28, Try.ntmps28
  go_upto_region 1 with fail
  generalize (w.alloc (.cells os.toArray 47)).alloc (.cells cs.toArray 52) = w2 at *
  obtain ⟨N, hN⟩ : ∃ N, N = w.heap.size := ⟨_, rfl⟩
  rw [← hN] at A1 A2 HB2 HBl HFl HSz ⊢
  have HN := hide hN
  clear hN
  have HLs : Hid (∀ (i : Nat) (y : Value), (bs (lvb rs))[i]? = some y → w2.cell? ((⟨B, 0, none⟩ : Addr).add i) = some y) := hide (fun i y hy => by
    have hi : i < 16 := by have := (List.getElem?_eq_some_iff.1 hy).1; rw [bs_len] at this; exact this
    rw [bs_get _ hi] at hy
    cases hy
    rw [add_nat]; exact (HNs.out.bq.cell hi).1)
  have hz := heap_alloc_new w2 (.cells (bs (fun _ => false)).toArray 55)
  have hb3 := freshB_below w2 (lvb rs)
  have A3 := hide (freshB_at w2 (lvb rs))
  have A1b := hide ((hb3.block N (Array.getElem?_eq_some_iff.1 A1.out).1).trans A1.out)
  have A2b := hide ((hb3.block (N + 1) (Array.getElem?_eq_some_iff.1 A2.out).1).trans A2.out)
  have HNs3 := hide (HNs.out.below hb3)
  have HB3 := hide (HB2.out.trans (hb3.mono (by rw [HSz.out]; omega)))
  have HL2 := hide (show N + 1 < w2.heap.size by rw [HSz.out]; omega)
  clear hb3 A1 A2 HNs HB2 HSz
  go_upto_region 2 with (first
    | (refine loadT Try.underlying55 rfl (bs (lvb rs)) (by rw [bs_len]; exact infoBs) rfl _ rfl ⟨B, 0, none⟩ rfl HLs.out ?_)
    | (refine storeT (bs (lvb rs)) (by rw [bs_len]; exact infoBs) (bs_one _) rfl _ _ rfl w2.heap.size 0 rfl rfl (bs (fun _ => false)) hz (by rw [bs_len, bs_len]; exact Nat.le_refl _) ?_; change wpList _ _ _ _ _ (freshB w2 (lvb rs)); generalize freshB w2 (lvb rs) = w3 at *))
  clear hz HLs
  generalize w2.heap.size = L at *
  have HOs := hide (show ∀ (i : Nat) (y : Value), os[i]? = some y → w3.cell? ((⟨N, 0, none⟩ : Addr).add i) = some y from fun i y hy => by rw [add_nat, cell_of_row _ _ _ _ _ _ A1b.out]; simpa using hy)
  have hol : (Try.prog.info? 47).map (·.size) = some os.length := by rw [HO.out]; exact infoOp
  go_wp2_with (refine loadT Try.underlying47 rfl os hol rfl _ rfl ⟨N, 0, none⟩ rfl HOs.out ?_)
  refine (HNo.out w3 HNs3.out).mono ?_
  rintro x4 w4 ⟨rfl, F2, hN4, hX4⟩
  have hFn : ∀ b, N ≤ b → ¬ wi B F b := fun b hb e9 => by
    rcases e9 with e9 | e9
    · have := HBl.out; omega
    · have := HFl.out b e9; omega
  have A1c := hide ((hX4.mod.block N (Array.getElem?_eq_some_iff.1 A1b.out).1 (hFn N (Nat.le_refl _))).trans A1b.out)
  have A2c := hide ((hX4.mod.block (N + 1) (Array.getElem?_eq_some_iff.1 A2b.out).1 (hFn (N + 1) (by omega))).trans A2b.out)
  have A3c := hide ((hX4.mod.block L (Array.getElem?_eq_some_iff.1 A3.out).1 (hFn L (by have := HL2.out; omega))).trans A3.out)
  have HX4 := hide ((ext_below (F := wi B F) (by have h9 := HB3.out; rw [HN.out] at h9; exact h9)).trans hX4)
  have HTd := hide (told_any hN4.et)
  have HN4 := hide hN4
  clear hN4 hX4 hFn A1b A2b A3 HB3 HNs3 HNo HOs hol
  go_wp2_with fail
  refine HTd.out.mono ?_
  rintro x5 w5 ⟨cs2, rfl, hT2, hb5⟩
  have hb6 := freshT_below w5 cs2
  have hb56 := hb5.trans (hb6.mono hb5.size)
  have U1 := hide ((hb56.block N (Array.getElem?_eq_some_iff.1 A1c.out).1).trans A1c.out)
  have U2 := hide ((hb56.block (N + 1) (Array.getElem?_eq_some_iff.1 A2c.out).1).trans A2c.out)
  have U3 := hide ((hb56.block L (Array.getElem?_eq_some_iff.1 A3c.out).1).trans A3c.out)
  have U4 := hide (freshT_tb w5 hT2.len).out
  have UN := hide (HN4.out.below hb56)
  have HXt := hide (HX4.out.trans (ext_below (F := wi B F2) hb56))
  have HT2 := hide hT2
  have hi : (Try.prog.info? 52).map (·.size) = some cs2.length := by rw [hT2.len]; exact infoTold
  have hle : 0 + cs2.length ≤ zT.length := by rw [zT_tc.len, hT2.len]; omega
  clear hb5 hb6 hb56 hT2 A1c A2c A3c HN4 HX4 HTd
  go_upto_region 6 with (first
    | (refine allocTold rfl rfl ?_)
    | (refine storeT cs2 hi HT2.out.one rfl _ _ rfl w5.heap.size 0 rfl rfl zT (heap_alloc_new w5 _) hle ?_; change wpList _ _ _ _ _ (freshT w5 cs2); generalize freshT w5 cs2 = u at *))
  generalize w5.heap.size = M at *
  clear hi hle
  have e2 : u.cell? ⟨N, 2, none⟩ = some (.int .i64 e) := by rw [cell_of_row _ _ _ _ _ _ U1.out, HO.out]; rfl
  have e0 : u.cell? ⟨N, 0, none⟩ = some (.int .i64 kd) := by rw [cell_of_row _ _ _ _ _ _ U1.out, HO.out]; rfl
  subst hk
  have hC3 := HCmm.out
  rw [if_neg (by decide)] at hC3
  rw [if_pos ⟨h0, h1⟩] at hC3
  have HCm := hide hC3
  obtain ⟨k, rfl⟩ : ∃ k : Nat, e = k := ⟨e.toNat, by omega⟩
  have hk16 : k < 16 := by omega
  have hp := (tc_env U2.out HT1.out hk16).1 1 (.int .i64 (tf rs k).pa) rfl
  rw [add_off] at hp
  rw [show ((k : Nat) : Int).toNat = k from rfl] at HCm
  generalize (tf rs k).pa = pr at *
  clear hC3 HCmm
  go_upto_region 12 with fail
  clear e0 e2 U1 HO hp h0 h1 hk16
  go_loopw [13] (fun x wr => ∃ j : Nat, j ≤ 16 ∧ x = .int .i64 (j : Int) ∧ Hid (Below u.heap.size u wr)) (fun x _ => 16 - (intOf x).toNat)
  case atStart => exact ⟨0, by omega, rfl, hide (Below.refl _ _)⟩
  case round =>
  obtain ⟨j, hj, rfl, KB⟩ := hrel
  by_cases h16 : j < 16
  · have hd : decide ((j : Int) < 16) = true := by simp; omega
    have hj3 : (j : Int) < 16 := by omega
    have VNv : ∀ {x : World}, Hid (Below u.heap.size u x) → Ns x F2 T B rs2 last2 := fun k => UN.out.below k.out
    have c2 := ((VNv KB).bq.cell h16).1
    have VL := (KB.out.block _ (Array.getElem?_eq_some_iff.1 U3.out).1).trans U3.out
    have c1 : wr.cell? ⟨L, j, none⟩ = some (.bool (lvb rs j)) := by
      rw [cell_of_row _ _ _ _ _ _ VL]
      simpa using bs_get (lvb rs) h16
    clear VL
    go_upto_region 14 with fail
    by_cases hl : lvb rs j = lvb rs2 j
    · clear VNv
      have hab : (lvb rs j == lvb rs2 j) = true := by rw [hl]; simp
      have HG := hide (HCm.out.g j h16 hl)
      have HFf := hide (HCm.out.f j h16 hl)
      obtain ⟨b1, hb1⟩ : ∃ b, b = lvb rs j := ⟨_, rfl⟩
      obtain ⟨b2, hb2⟩ : ∃ b, b = lvb rs2 j := ⟨_, rfl⟩
      rw [← hb1, ← hb2] at hab
      rw [← hb1] at c1
      rw [← hb2] at c2
      clear hb1 hb2 hl
      go_quiet (fail)
      have KBv := hide (KB.out.trans ((show Below wr.heap.size wr (wr.drewN nq) from ⟨rfl, rfl, rfl, Nat.le_refl _, fun _ _ => rfl⟩).mono KB.out.size))
      clear c1 c2 KB
      generalize wr.drewN nq = v at *
      have VA := (KBv.out.block _ (Array.getElem?_eq_some_iff.1 U2.out).1).trans U2.out
      obtain ⟨s1, _⟩ := tc_env VA HT1.out h16
      obtain ⟨r1, hr1⟩ : ∃ r, tf rs j = r := ⟨_, rfl⟩
      obtain ⟨r2, hr2⟩ : ∃ r, tf rs2 j = r := ⟨_, rfl⟩
      obtain ⟨z, hz1⟩ : ∃ z, tg rs j = z := ⟨_, rfl⟩
      have HG1 := hide hz1
      have HG2 := hide (show tg rs2 j = z by rw [← HG.out]; exact hz1)
      have HR2 := hide hr2
      have hFf := HFf.out
      rw [hr1, hr2] at hFf
      rw [hr1] at s1
      have HFg := hide hFf
      have HS1 := hide s1
      clear hr1 hr2 hz1 hFf HFf HG s1 VA
      have hz : Eb (v.alloc (.cells Er.nil.head.toArray 41)) v.heap.size Er.nil := Eb.new _ _
      have HX2 := hide (freshE_eb v r1)
      have KBv2 := hide (KBv.out.trans ((freshE_below v r1).mono KBv.out.size))
      go_upto_region 18 with (first
        | (refine loadT Try.underlying41 rfl r1.head (by rw [head_len]; exact infoE) rfl _ rfl ⟨N + 1, j * 21, none⟩ rfl HS1.out ?_)
        | (refine storeE r1 ?nw2 _ _ rfl v.heap.size Er.nil ?nx2 ?ny2 ?nz2 ?_; rotate_left 4; change wpList _ _ _ _ _ (freshE v r1); generalize freshE v r1 = v2 at *))
      try (case nw2 => rfl)
      try (case nx2 => rfl)
      try (case ny2 => rfl)
      try (case nz2 => exact hz)
      have HXn : Hid (u.heap.size ≤ v.heap.size) := hide KBv.out.size
      clear hz HS1 KBv hab
      generalize v.heap.size = X at *
      by_cases hp : (j : Int) = pr
      · have hpb : ((j : Int) == pr) = true := by simp [hp]
        have hE : ({ r1 with lf := r2.lf } : Er).head = r2.head := by have := HFg.out; rw [if_pos hp] at this; exact this
        have HE := hide hE
        clear hE hp HFg
        have VM := (KBv2.out.block _ (Array.getElem?_eq_some_iff.1 U4.out).1).trans U4.out
        have HCq : Hid (∀ (i : Nat) (y : Value), (qtL r2.lf)[i]? = some y → v2.cell? ((⟨M, j * 21 + 18, none⟩ : Addr).add i) = some y) := hide (fun i y hy => by
          have hi : i < 3 := (List.getElem?_eq_some_iff.1 hy).1
          have h9 := (tc_env VM HT2.out h16).1 (18 + i) y (by
            rw [HR2.out, show r2.head = r2.head.take 18 ++ qtL r2.lf from rfl, List.getElem?_append_right (by simp [Er.head])]
            simpa [Er.head] using hy)
          rw [add_off] at h9 ⊢
          rw [Nat.add_assoc]; exact h9)
        have HX3 := hide (show Eb (v2.setCells X 18 (qtL r2.lf)) X { r1 with lf := r2.lf } from ⟨by rw [heap_setCells_row X _ (qtL r2.lf) 18 v2 _ HX2.out.out]; rfl⟩)
        have KBv3 := hide (below_setCells KBv2.out HXn.out 18 (qtL r2.lf))
        clear VM
        go_upto_region 20 with (first
          | (refine loadT Try.underlying39 rfl (qtL r2.lf) infoQt rfl _ rfl ⟨M, j * 21 + 18, none⟩ rfl HCq.out ?_)
          | (refine storeT (qtL r2.lf) infoQt (qtL_one r2.lf) rfl _ _ rfl X 18 rfl rfl r1.head HX2.out.out (by rw [head_len]; exact (by decide : 18 + 3 ≤ 21)) ?_; generalize v2.setCells X 18 (qtL r2.lf) = v3 at *))
        clear hpb HCq HX2 KBv2
        obtain ⟨v4, hdv4⟩ : ∃ v, v = v3.drew := ⟨_, rfl⟩
        have KBv4 := hide (KBv3.out.trans ((show Below v3.heap.size v3 v4 by rw [hdv4]; exact ⟨rfl, rfl, rfl, Nat.le_refl _, fun _ _ => rfl⟩).mono KBv3.out.size))
        have HX4 := hide (HX3.out.keep ((show Below v3.heap.size v3 v4 by rw [hdv4]; exact ⟨rfl, rfl, rfl, Nat.le_refl _, fun _ _ => rfl⟩).block X HX3.out.lt))
        have VA := (KBv4.out.block _ (Array.getElem?_eq_some_iff.1 U2.out).1).trans U2.out
        have VM := (KBv4.out.block _ (Array.getElem?_eq_some_iff.1 U4.out).1).trans U4.out
        obtain ⟨_, s3⟩ := tc_env VA HT1.out h16
        obtain ⟨s2, s4⟩ := tc_env VM HT2.out h16
        rw [HG1.out] at s3
        rw [HR2.out] at s2
        rw [HG2.out] at s4
        have HS : Hid ((∀ (i : Nat) (y : Value), r2.head[i]? = some y → v4.cell? ((⟨X, 0, none⟩ : Addr).add i) = some y) ∧ (∀ (i : Nat) (y : Value), r2.head[i]? = some y → v4.cell? ((⟨M, j * 21, none⟩ : Addr).add i) = some y) ∧ v4.cell? ⟨N + 1, 336 + j, none⟩ = some (.int .i64 z) ∧ v4.cell? ⟨M, 336 + j, none⟩ = some (.int .i64 z)) := hide ⟨fun i y hy => HX4.out.hcell i y (by rw [HE.out]; exact hy), s2, s3, s4⟩
        clear s2 s3 s4 VA VM
        refine wp_region_held_drew (S := fun W => (∀ (i : Nat) (y : Value), r2.head[i]? = some y → W.cell? ((⟨X, 0, none⟩ : Addr).add i) = some y) ∧ (∀ (i : Nat) (y : Value), r2.head[i]? = some y → W.cell? ((⟨M, j * 21, none⟩ : Addr).add i) = some y) ∧ W.cell? ⟨N + 1, 336 + j, none⟩ = some (.int .i64 z) ∧ W.cell? ⟨M, 336 + j, none⟩ = some (.int .i64 z)) (by kernel_rfl) (by rw [← hdv4]; exact HS.out) (fun _ => ?_)
        rw [← hdv4]
        clear hdv4
        refine hd_take 0 (o := ⟨some 85, _, _, _, _, _⟩) (.agg r2.head.toArray) (by kernel_rfl) (by kernel_rfl) (by kernel_rfl) rfl (by rfl) (fun W hSw => by obtain ⟨s1, s2, s3, s4⟩ := hSw; exact run_loadT Try.underlying41 rfl r2.head (by rw [head_len]; exact infoE) _ rfl ⟨X, 0, none⟩ rfl s1) (fun _ _ _ h => h) HS.out ?_
        try simp only [Act.put, List.setIfInBounds_toArray, List.set_cons_zero, List.set_cons_succ]
        refine hd_take 1 (o := ⟨some 86, _, _, _, _, _⟩) (.int .i64 (j : Int)) (by kernel_rfl) (by kernel_rfl) (by kernel_rfl) rfl (by rfl) (fun W hSw => by go_simp) (fun _ _ _ h => h) HS.out ?_
        try simp only [Act.put, List.setIfInBounds_toArray, List.set_cons_zero, List.set_cons_succ]
        refine hd_take 2 (o := ⟨some 87, _, _, _, _, _⟩) (.pointer (some ⟨M, 0, none⟩)) (by kernel_rfl) (by kernel_rfl) (by kernel_rfl) rfl (by rfl) (fun W hSw => by go_simp) (fun _ _ _ h => h) HS.out ?_
        try simp only [Act.put, List.setIfInBounds_toArray, List.set_cons_zero, List.set_cons_succ]
        refine hd_take 3 (o := ⟨some 88, _, _, _, _, _⟩) (.pointer (some ⟨M, j * 21, none⟩)) (by kernel_rfl) (by kernel_rfl) (by kernel_rfl) rfl (by rfl) (fun W hSw => by go_simp) (fun _ _ _ h => h) HS.out ?_
        try simp only [Act.put, List.setIfInBounds_toArray, List.set_cons_zero, List.set_cons_succ]
        refine hd_take 4 (o := ⟨some 89, _, _, _, _, _⟩) (.agg r2.head.toArray) (by kernel_rfl) (by kernel_rfl) (by kernel_rfl) rfl (by rfl) (fun W hSw => by obtain ⟨s1, s2, s3, s4⟩ := hSw; exact run_loadT Try.underlying41 rfl r2.head (by rw [head_len]; exact infoE) _ rfl ⟨M, j * 21, none⟩ rfl s2) (fun _ _ _ h => h) HS.out ?_
        try simp only [Act.put, List.setIfInBounds_toArray, List.set_cons_zero, List.set_cons_succ]
        refine hd_take 5 (o := ⟨some 90, _, _, _, _, _⟩) (.bool false) (by kernel_rfl) (by kernel_rfl) (by kernel_rfl) rfl (by rfl) (fun W hSw => by exact run_neqT r2.head.toArray (se_env 9996 r2) (by kernel_rfl) _ _ rfl rfl rfl) (fun _ _ _ h => h) HS.out ?_
        try simp only [Act.put, List.setIfInBounds_toArray, List.set_cons_zero, List.set_cons_succ]
        refine hd_take 6 (o := ⟨some 91, _, _, _, _, _⟩) (.bool false) (by kernel_rfl) (by kernel_rfl) (by kernel_rfl) rfl (by rfl) (fun W hSw => by go_simp) (fun _ _ _ h => h) HS.out ?_
        try simp only [Act.put, List.setIfInBounds_toArray, List.set_cons_zero, List.set_cons_succ]
        refine hd_take 7 (o := ⟨some 92, _, _, _, _, _⟩) (.int .i64 (j : Int)) (by kernel_rfl) (by kernel_rfl) (by kernel_rfl) rfl (by rfl) (fun W hSw => by go_simp) (fun _ _ _ h => h) HS.out ?_
        try simp only [Act.put, List.setIfInBounds_toArray, List.set_cons_zero, List.set_cons_succ]
        refine hd_take 8 (o := ⟨some 93, _, _, _, _, _⟩) (.pointer (some ⟨N + 1, 336, none⟩)) (by kernel_rfl) (by kernel_rfl) (by kernel_rfl) rfl (by rfl) (fun W hSw => by go_simp) (fun _ _ _ h => h) HS.out ?_
        try simp only [Act.put, List.setIfInBounds_toArray, List.set_cons_zero, List.set_cons_succ]
        refine hd_take 9 (o := ⟨some 94, _, _, _, _, _⟩) (.pointer (some ⟨N + 1, 336 + j, none⟩)) (by kernel_rfl) (by kernel_rfl) (by kernel_rfl) rfl (by rfl) (fun W hSw => by go_simp) (fun _ _ _ h => h) HS.out ?_
        try simp only [Act.put, List.setIfInBounds_toArray, List.set_cons_zero, List.set_cons_succ]
        refine hd_take 10 (o := ⟨some 95, _, _, _, _, _⟩) (.int .i64 z) (by kernel_rfl) (by kernel_rfl) (by kernel_rfl) rfl (by rfl) (fun W hSw => by obtain ⟨s1, s2, s3, s4⟩ := hSw; go_simp) (fun _ _ _ h => h) HS.out ?_
        try simp only [Act.put, List.setIfInBounds_toArray, List.set_cons_zero, List.set_cons_succ]
        refine hd_take 11 (o := ⟨some 96, _, _, _, _, _⟩) (.int .i64 (j : Int)) (by kernel_rfl) (by kernel_rfl) (by kernel_rfl) rfl (by rfl) (fun W hSw => by go_simp) (fun _ _ _ h => h) HS.out ?_
        try simp only [Act.put, List.setIfInBounds_toArray, List.set_cons_zero, List.set_cons_succ]
        refine hd_take 12 (o := ⟨some 97, _, _, _, _, _⟩) (.pointer (some ⟨M, 336, none⟩)) (by kernel_rfl) (by kernel_rfl) (by kernel_rfl) rfl (by rfl) (fun W hSw => by go_simp) (fun _ _ _ h => h) HS.out ?_
        try simp only [Act.put, List.setIfInBounds_toArray, List.set_cons_zero, List.set_cons_succ]
        refine hd_take 13 (o := ⟨some 98, _, _, _, _, _⟩) (.pointer (some ⟨M, 336 + j, none⟩)) (by kernel_rfl) (by kernel_rfl) (by kernel_rfl) rfl (by rfl) (fun W hSw => by go_simp) (fun _ _ _ h => h) HS.out ?_
        try simp only [Act.put, List.setIfInBounds_toArray, List.set_cons_zero, List.set_cons_succ]
        refine hd_take 14 (o := ⟨some 99, _, _, _, _, _⟩) (.int .i64 z) (by kernel_rfl) (by kernel_rfl) (by kernel_rfl) rfl (by rfl) (fun W hSw => by obtain ⟨s1, s2, s3, s4⟩ := hSw; go_simp) (fun _ _ _ h => h) HS.out ?_
        try simp only [Act.put, List.setIfInBounds_toArray, List.set_cons_zero, List.set_cons_succ]
        refine hd_take 15 (o := ⟨some 100, _, _, _, _, _⟩) (.bool false) (by kernel_rfl) (by kernel_rfl) (by kernel_rfl) rfl (by rfl) (fun W hSw => by go_simp) (fun _ _ _ h => h) HS.out ?_
        try simp only [Act.put, List.setIfInBounds_toArray, List.set_cons_zero, List.set_cons_succ]
        refine hd_take 16 (o := ⟨some 101, _, _, _, _, _⟩) (.bool false) (by kernel_rfl) (by kernel_rfl) (by kernel_rfl) rfl (by rfl) (fun W hSw => by go_simp) (fun _ _ _ h => h) HS.out ?_
        try simp only [Act.put, List.setIfInBounds_toArray, List.set_cons_zero, List.set_cons_succ]
        refine wpAnyH_done (by kernel_rfl) ?_ _
        clear HS
        go_wp2_with fail
        go_roundw
        case rel =>
          first
            | exact ⟨j + 1, by omega, by go_num, KBv4⟩
            | ((repeat apply Exists.intro); refine ⟨?_, rfl⟩; exact ⟨j + 1, by omega, by go_num, KBv4⟩)
        case measure => simp [intOf]; omega
      · have hpb : ((j : Int) == pr) = false := by simp [hp]
        have hE : r1.head = r2.head := by have := HFg.out; rw [if_neg hp] at this; exact this
        have HE := hide hE
        clear hE hp HFg
        go_upto_region 20 with fail
        have HX3 := HX2
        have KBv3 := KBv2
        clear HX2 KBv2 hpb
        generalize v2 = v3 at *
        obtain ⟨v4, hdv4⟩ : ∃ v, v = v3.drew := ⟨_, rfl⟩
        have KBv4 := hide (KBv3.out.trans ((show Below v3.heap.size v3 v4 by rw [hdv4]; exact ⟨rfl, rfl, rfl, Nat.le_refl _, fun _ _ => rfl⟩).mono KBv3.out.size))
        have HX4 := hide (HX3.out.keep ((show Below v3.heap.size v3 v4 by rw [hdv4]; exact ⟨rfl, rfl, rfl, Nat.le_refl _, fun _ _ => rfl⟩).block X HX3.out.lt))
        have VA := (KBv4.out.block _ (Array.getElem?_eq_some_iff.1 U2.out).1).trans U2.out
        have VM := (KBv4.out.block _ (Array.getElem?_eq_some_iff.1 U4.out).1).trans U4.out
        obtain ⟨_, s3⟩ := tc_env VA HT1.out h16
        obtain ⟨s2, s4⟩ := tc_env VM HT2.out h16
        rw [HG1.out] at s3
        rw [HR2.out] at s2
        rw [HG2.out] at s4
        have HS : Hid ((∀ (i : Nat) (y : Value), r2.head[i]? = some y → v4.cell? ((⟨X, 0, none⟩ : Addr).add i) = some y) ∧ (∀ (i : Nat) (y : Value), r2.head[i]? = some y → v4.cell? ((⟨M, j * 21, none⟩ : Addr).add i) = some y) ∧ v4.cell? ⟨N + 1, 336 + j, none⟩ = some (.int .i64 z) ∧ v4.cell? ⟨M, 336 + j, none⟩ = some (.int .i64 z)) := hide ⟨fun i y hy => HX4.out.hcell i y (by rw [HE.out]; exact hy), s2, s3, s4⟩
        clear s2 s3 s4 VA VM
        refine wp_region_held_drew (S := fun W => (∀ (i : Nat) (y : Value), r2.head[i]? = some y → W.cell? ((⟨X, 0, none⟩ : Addr).add i) = some y) ∧ (∀ (i : Nat) (y : Value), r2.head[i]? = some y → W.cell? ((⟨M, j * 21, none⟩ : Addr).add i) = some y) ∧ W.cell? ⟨N + 1, 336 + j, none⟩ = some (.int .i64 z) ∧ W.cell? ⟨M, 336 + j, none⟩ = some (.int .i64 z)) (by kernel_rfl) (by rw [← hdv4]; exact HS.out) (fun _ => ?_)
        rw [← hdv4]
        clear hdv4
        refine hd_take 0 (o := ⟨some 85, _, _, _, _, _⟩) (.agg r2.head.toArray) (by kernel_rfl) (by kernel_rfl) (by kernel_rfl) rfl (by rfl) (fun W hSw => by obtain ⟨s1, s2, s3, s4⟩ := hSw; exact run_loadT Try.underlying41 rfl r2.head (by rw [head_len]; exact infoE) _ rfl ⟨X, 0, none⟩ rfl s1) (fun _ _ _ h => h) HS.out ?_
        try simp only [Act.put, List.setIfInBounds_toArray, List.set_cons_zero, List.set_cons_succ]
        refine hd_take 1 (o := ⟨some 86, _, _, _, _, _⟩) (.int .i64 (j : Int)) (by kernel_rfl) (by kernel_rfl) (by kernel_rfl) rfl (by rfl) (fun W hSw => by go_simp) (fun _ _ _ h => h) HS.out ?_
        try simp only [Act.put, List.setIfInBounds_toArray, List.set_cons_zero, List.set_cons_succ]
        refine hd_take 2 (o := ⟨some 87, _, _, _, _, _⟩) (.pointer (some ⟨M, 0, none⟩)) (by kernel_rfl) (by kernel_rfl) (by kernel_rfl) rfl (by rfl) (fun W hSw => by go_simp) (fun _ _ _ h => h) HS.out ?_
        try simp only [Act.put, List.setIfInBounds_toArray, List.set_cons_zero, List.set_cons_succ]
        refine hd_take 3 (o := ⟨some 88, _, _, _, _, _⟩) (.pointer (some ⟨M, j * 21, none⟩)) (by kernel_rfl) (by kernel_rfl) (by kernel_rfl) rfl (by rfl) (fun W hSw => by go_simp) (fun _ _ _ h => h) HS.out ?_
        try simp only [Act.put, List.setIfInBounds_toArray, List.set_cons_zero, List.set_cons_succ]
        refine hd_take 4 (o := ⟨some 89, _, _, _, _, _⟩) (.agg r2.head.toArray) (by kernel_rfl) (by kernel_rfl) (by kernel_rfl) rfl (by rfl) (fun W hSw => by obtain ⟨s1, s2, s3, s4⟩ := hSw; exact run_loadT Try.underlying41 rfl r2.head (by rw [head_len]; exact infoE) _ rfl ⟨M, j * 21, none⟩ rfl s2) (fun _ _ _ h => h) HS.out ?_
        try simp only [Act.put, List.setIfInBounds_toArray, List.set_cons_zero, List.set_cons_succ]
        refine hd_take 5 (o := ⟨some 90, _, _, _, _, _⟩) (.bool false) (by kernel_rfl) (by kernel_rfl) (by kernel_rfl) rfl (by rfl) (fun W hSw => by exact run_neqT r2.head.toArray (se_env 9996 r2) (by kernel_rfl) _ _ rfl rfl rfl) (fun _ _ _ h => h) HS.out ?_
        try simp only [Act.put, List.setIfInBounds_toArray, List.set_cons_zero, List.set_cons_succ]
        refine hd_take 6 (o := ⟨some 91, _, _, _, _, _⟩) (.bool false) (by kernel_rfl) (by kernel_rfl) (by kernel_rfl) rfl (by rfl) (fun W hSw => by go_simp) (fun _ _ _ h => h) HS.out ?_
        try simp only [Act.put, List.setIfInBounds_toArray, List.set_cons_zero, List.set_cons_succ]
        refine hd_take 7 (o := ⟨some 92, _, _, _, _, _⟩) (.int .i64 (j : Int)) (by kernel_rfl) (by kernel_rfl) (by kernel_rfl) rfl (by rfl) (fun W hSw => by go_simp) (fun _ _ _ h => h) HS.out ?_
        try simp only [Act.put, List.setIfInBounds_toArray, List.set_cons_zero, List.set_cons_succ]
        refine hd_take 8 (o := ⟨some 93, _, _, _, _, _⟩) (.pointer (some ⟨N + 1, 336, none⟩)) (by kernel_rfl) (by kernel_rfl) (by kernel_rfl) rfl (by rfl) (fun W hSw => by go_simp) (fun _ _ _ h => h) HS.out ?_
        try simp only [Act.put, List.setIfInBounds_toArray, List.set_cons_zero, List.set_cons_succ]
        refine hd_take 9 (o := ⟨some 94, _, _, _, _, _⟩) (.pointer (some ⟨N + 1, 336 + j, none⟩)) (by kernel_rfl) (by kernel_rfl) (by kernel_rfl) rfl (by rfl) (fun W hSw => by go_simp) (fun _ _ _ h => h) HS.out ?_
        try simp only [Act.put, List.setIfInBounds_toArray, List.set_cons_zero, List.set_cons_succ]
        refine hd_take 10 (o := ⟨some 95, _, _, _, _, _⟩) (.int .i64 z) (by kernel_rfl) (by kernel_rfl) (by kernel_rfl) rfl (by rfl) (fun W hSw => by obtain ⟨s1, s2, s3, s4⟩ := hSw; go_simp) (fun _ _ _ h => h) HS.out ?_
        try simp only [Act.put, List.setIfInBounds_toArray, List.set_cons_zero, List.set_cons_succ]
        refine hd_take 11 (o := ⟨some 96, _, _, _, _, _⟩) (.int .i64 (j : Int)) (by kernel_rfl) (by kernel_rfl) (by kernel_rfl) rfl (by rfl) (fun W hSw => by go_simp) (fun _ _ _ h => h) HS.out ?_
        try simp only [Act.put, List.setIfInBounds_toArray, List.set_cons_zero, List.set_cons_succ]
        refine hd_take 12 (o := ⟨some 97, _, _, _, _, _⟩) (.pointer (some ⟨M, 336, none⟩)) (by kernel_rfl) (by kernel_rfl) (by kernel_rfl) rfl (by rfl) (fun W hSw => by go_simp) (fun _ _ _ h => h) HS.out ?_
        try simp only [Act.put, List.setIfInBounds_toArray, List.set_cons_zero, List.set_cons_succ]
        refine hd_take 13 (o := ⟨some 98, _, _, _, _, _⟩) (.pointer (some ⟨M, 336 + j, none⟩)) (by kernel_rfl) (by kernel_rfl) (by kernel_rfl) rfl (by rfl) (fun W hSw => by go_simp) (fun _ _ _ h => h) HS.out ?_
        try simp only [Act.put, List.setIfInBounds_toArray, List.set_cons_zero, List.set_cons_succ]
        refine hd_take 14 (o := ⟨some 99, _, _, _, _, _⟩) (.int .i64 z) (by kernel_rfl) (by kernel_rfl) (by kernel_rfl) rfl (by rfl) (fun W hSw => by obtain ⟨s1, s2, s3, s4⟩ := hSw; go_simp) (fun _ _ _ h => h) HS.out ?_
        try simp only [Act.put, List.setIfInBounds_toArray, List.set_cons_zero, List.set_cons_succ]
        refine hd_take 15 (o := ⟨some 100, _, _, _, _, _⟩) (.bool false) (by kernel_rfl) (by kernel_rfl) (by kernel_rfl) rfl (by rfl) (fun W hSw => by go_simp) (fun _ _ _ h => h) HS.out ?_
        try simp only [Act.put, List.setIfInBounds_toArray, List.set_cons_zero, List.set_cons_succ]
        refine hd_take 16 (o := ⟨some 101, _, _, _, _, _⟩) (.bool false) (by kernel_rfl) (by kernel_rfl) (by kernel_rfl) rfl (by rfl) (fun W hSw => by go_simp) (fun _ _ _ h => h) HS.out ?_
        try simp only [Act.put, List.setIfInBounds_toArray, List.set_cons_zero, List.set_cons_succ]
        refine wpAnyH_done (by kernel_rfl) ?_ _
        clear HS
        go_wp2_with fail
        go_roundw
        case rel =>
          first
            | exact ⟨j + 1, by omega, by go_num, KBv4⟩
            | ((repeat apply Exists.intro); refine ⟨?_, rfl⟩; exact ⟨j + 1, by omega, by go_num, KBv4⟩)
        case measure => simp [intOf]; omega
    · rcases lvb_cases rs2 j with ⟨_, _, h2, _, h3⟩ | ⟨_, h2, _, h3⟩
      · have h1 : lvb rs j = false := by cases hq : lvb rs j with
          | true => rw [hq, h2] at hl; exact (hl rfl).elim
          | false => rfl
        clear hl
        rw [h1] at c1
        rw [h2] at c2
        go_quiet (fail)
        have KBv := hide (KB.out.trans ((show Below wr.heap.size wr (wr.drewN nq) from ⟨rfl, rfl, rfl, Nat.le_refl _, fun _ _ => rfl⟩).mono KB.out.size))
        clear c1 c2 KB
        generalize wr.drewN nq = v at *
        have VM := (KBv.out.block _ (Array.getElem?_eq_some_iff.1 U4.out).1).trans U4.out
        obtain ⟨_, s4⟩ := tc_env VM HT2.out h16
        rw [h3] at s4
        have c2 := (VNv KBv).bq.cell h16
        rw [h2] at c2
        have c3 := c2.1
        clear c2 VM
        go_upto_region 15 with fail
        go_quiet (fail)
        have KBw := hide (KBv.out.trans ((show Below v.heap.size v (v.drewN nq) from ⟨rfl, rfl, rfl, Nat.le_refl _, fun _ _ => rfl⟩).mono KBv.out.size))
        clear KBv c3 s4
        generalize v.drewN nq = v2 at *
        go_wp2_with fail
        go_roundw
        case rel =>
          first
            | exact ⟨j + 1, by omega, by go_num, KBw⟩
            | ((repeat apply Exists.intro); refine ⟨?_, rfl⟩; exact ⟨j + 1, by omega, by go_num, KBw⟩)
        case measure => simp [intOf]; omega
      · have h1 : lvb rs j = true := by cases hq : lvb rs j with
          | false => rw [hq, h2] at hl; exact (hl rfl).elim
          | true => rfl
        clear hl
        rw [h1] at c1
        rw [h2] at c2
        go_quiet (fail)
        have KBv := hide (KB.out.trans ((show Below wr.heap.size wr (wr.drewN nq) from ⟨rfl, rfl, rfl, Nat.le_refl _, fun _ _ => rfl⟩).mono KB.out.size))
        clear c1 c2 KB
        generalize wr.drewN nq = v at *
        have VM := (KBv.out.block _ (Array.getElem?_eq_some_iff.1 U4.out).1).trans U4.out
        obtain ⟨_, s4⟩ := tc_env VM HT2.out h16
        rw [h3] at s4
        have c2 := (VNv KBv).bq.cell h16
        rw [h2] at c2
        have c3 := c2.1
        clear c2 VM
        go_upto_region 15 with fail
        go_quiet (fail)
        have KBw := hide (KBv.out.trans ((show Below v.heap.size v (v.drewN nq) from ⟨rfl, rfl, rfl, Nat.le_refl _, fun _ _ => rfl⟩).mono KBv.out.size))
        clear KBv c3 s4
        generalize v.drewN nq = v2 at *
        go_wp2_with fail
        go_roundw
        case rel =>
          first
            | exact ⟨j + 1, by omega, by go_num, KBw⟩
            | ((repeat apply Exists.intro); refine ⟨?_, rfl⟩; exact ⟨j + 1, by omega, by go_num, KBw⟩)
        case measure => simp [intOf]; omega
  · obtain rfl : j = 16 := by omega
    go_upto_region 22 with fail
    obtain ⟨v, hdv⟩ : ∃ v, v = wr.drew := ⟨_, rfl⟩
    have KBv := hide (KB.out.trans ((show Below wr.heap.size wr v by rw [hdv]; exact ⟨rfl, rfl, rfl, Nat.le_refl _, fun _ _ => rfl⟩).mono KB.out.size))
    clear KB
    have VA := (KBv.out.block _ (Array.getElem?_eq_some_iff.1 U2.out).1).trans U2.out
    have VL := (KBv.out.block _ (Array.getElem?_eq_some_iff.1 U3.out).1).trans U3.out
    have VM := (KBv.out.block _ (Array.getElem?_eq_some_iff.1 U4.out).1).trans U4.out
    have VNn := hide (UN.out.below KBv.out)
    have HS : Hid (v.heap[L]? = some (.cells (bs (lvb rs)).toArray 55 (0, 0)) ∧ (∀ (i : Nat) (y : Value), (bs (lvb rs2))[i]? = some y → v.cell? ((⟨B, 0, none⟩ : Addr).add i) = some y) ∧ v.heap[M]? = some (.cells cs2.toArray 52 (0, 0)) ∧ v.heap[N + 1]? = some (.cells cs.toArray 52 (0, 0))) := hide ⟨VL, fun i y hy => by
      have hi : i < 16 := by have := (List.getElem?_eq_some_iff.1 hy).1; rw [bs_len] at this; exact this
      rw [bs_get _ hi] at hy
      cases hy
      rw [add_nat]; exact (VNn.out.bq.cell hi).1, VM, VA⟩
    clear VA VL VM
    refine wp_region_held_drew (S := fun W => W.heap[L]? = some (.cells (bs (lvb rs)).toArray 55 (0, 0)) ∧ (∀ (i : Nat) (y : Value), (bs (lvb rs2))[i]? = some y → W.cell? ((⟨B, 0, none⟩ : Addr).add i) = some y) ∧ W.heap[M]? = some (.cells cs2.toArray 52 (0, 0)) ∧ W.heap[N + 1]? = some (.cells cs.toArray 52 (0, 0))) (by kernel_rfl) (by rw [← hdv]; exact HS.out) (fun _ => ?_)
    rw [← hdv]
    clear hdv
    refine hd_take 0 (o := ⟨some 102, _, _, _, _, _⟩) (.agg (bs (lvb rs)).toArray) (by kernel_rfl) (by kernel_rfl) (by kernel_rfl) rfl (by rfl) (fun W hSw => by obtain ⟨s1, s2, s3, s4⟩ := hSw; exact run_loadT Try.underlying55 rfl (bs (lvb rs)) (by rw [bs_len]; exact infoBs) _ rfl ⟨L, 0, none⟩ rfl (fun i y hy => by rw [add_nat, cell_of_row _ _ _ _ _ _ s1]; simpa using hy)) (fun _ _ _ h => h) HS.out ?_
    try simp only [Act.put, List.setIfInBounds_toArray, List.set_cons_zero, List.set_cons_succ]
    refine hd_take 1 (o := ⟨some 103, _, _, _, _, _⟩) (.pointer (some ⟨B, 0, none⟩)) (by kernel_rfl) (by kernel_rfl) (by kernel_rfl) rfl (by rfl) (fun W hSw => by go_simp) (fun _ _ _ h => h) HS.out ?_
    try simp only [Act.put, List.setIfInBounds_toArray, List.set_cons_zero, List.set_cons_succ]
    refine hd_take 2 (o := ⟨some 104, _, _, _, _, _⟩) (.pointer (some ⟨B, 0, none⟩)) (by kernel_rfl) (by kernel_rfl) (by kernel_rfl) rfl (by rfl) (fun W hSw => by go_simp) (fun _ _ _ h => h) HS.out ?_
    try simp only [Act.put, List.setIfInBounds_toArray, List.set_cons_zero, List.set_cons_succ]
    refine hd_take 3 (o := ⟨some 105, _, _, _, _, _⟩) (.pointer (some ⟨B, 0, none⟩)) (by kernel_rfl) (by kernel_rfl) (by kernel_rfl) rfl (by rfl) (fun W hSw => by go_simp) (fun _ _ _ h => h) HS.out ?_
    try simp only [Act.put, List.setIfInBounds_toArray, List.set_cons_zero, List.set_cons_succ]
    refine hd_take 4 (o := ⟨some 106, _, _, _, _, _⟩) (.agg (bs (lvb rs2)).toArray) (by kernel_rfl) (by kernel_rfl) (by kernel_rfl) rfl (by rfl) (fun W hSw => by obtain ⟨s1, s2, s3, s4⟩ := hSw; exact run_loadT Try.underlying55 rfl (bs (lvb rs2)) (by rw [bs_len]; exact infoBs) _ rfl ⟨B, 0, none⟩ rfl s2) (fun _ _ _ h => h) HS.out ?_
    try simp only [Act.put, List.setIfInBounds_toArray, List.set_cons_zero, List.set_cons_succ]
    by_cases hall : (List.range 16).all (fun i => lvb rs i == lvb rs2 i) = true
    · have HCs : Hid (cs2 = cs) := hide (by
        have e9 := HCm.out.s (fun i hi => by
          have := List.all_eq_true.1 hall i (List.mem_range.2 hi)
          simpa using this)
        have h9 := HT2.out
        rw [e9] at h9
        exact h9.ext HT1.out (fun _ _ => rfl) (fun _ _ => rfl))
      refine hd_take 5 (o := ⟨some 107, _, _, _, _, _⟩) (.bool false) (by kernel_rfl) (by kernel_rfl) (by kernel_rfl) rfl (by rfl) (fun W hSw => by exact run_neqB (bs (lvb rs)).toArray (bs (lvb rs2)).toArray true (fun W => by rw [eq_bs 9998]; exact congrArg (fun b => Result.ok b W) hall) (by kernel_rfl) _ _ rfl rfl rfl) (fun _ _ _ h => h) HS.out ?_
      try simp only [Act.put, List.setIfInBounds_toArray, List.set_cons_zero, List.set_cons_succ]
      refine hd_take 6 (o := ⟨some 108, _, _, _, _, _⟩) (.bool false) (by kernel_rfl) (by kernel_rfl) (by kernel_rfl) rfl (by rfl) (fun W hSw => by go_simp) (fun _ _ _ h => h) HS.out ?_
      try simp only [Act.put, List.setIfInBounds_toArray, List.set_cons_zero, List.set_cons_succ]
      refine hd_take 7 (o := ⟨some 109, _, _, _, _, _⟩) (.agg cs.toArray) (by kernel_rfl) (by kernel_rfl) (by kernel_rfl) rfl (by rfl) (fun W hSw => by obtain ⟨s1, s2, s3, s4⟩ := hSw; exact run_loadT Try.underlying52 rfl cs (by rw [HT1.out.len]; exact infoTold) _ rfl ⟨M, 0, none⟩ rfl (Tb.cell ⟨by rw [← HCs.out]; exact s3⟩)) (fun _ _ _ h => h) HS.out ?_
      try simp only [Act.put, List.setIfInBounds_toArray, List.set_cons_zero, List.set_cons_succ]
      refine hd_take 8 (o := ⟨some 110, _, _, _, _, _⟩) (.agg cs.toArray) (by kernel_rfl) (by kernel_rfl) (by kernel_rfl) rfl (by rfl) (fun W hSw => by obtain ⟨s1, s2, s3, s4⟩ := hSw; exact run_loadT Try.underlying52 rfl cs (by rw [HT1.out.len]; exact infoTold) _ rfl ⟨N + 1, 0, none⟩ rfl (Tb.cell ⟨s4⟩)) (fun _ _ _ h => h) HS.out ?_
      try simp only [Act.put, List.setIfInBounds_toArray, List.set_cons_zero, List.set_cons_succ]
      refine hd_take 9 (o := ⟨some 111, _, _, _, _, _⟩) (.bool true) (by kernel_rfl) (by kernel_rfl) (by kernel_rfl) rfl (by rfl) (fun W hSw => by exact run_eqlT cs.toArray (HT1.out.se 9994) (by kernel_rfl) _ _ rfl rfl rfl) (fun _ _ _ h => h) HS.out ?_
      try simp only [Act.put, List.setIfInBounds_toArray, List.set_cons_zero, List.set_cons_succ]
      refine hd_take 10 (o := ⟨some 112, _, _, _, _, _⟩) (.bool true) (by kernel_rfl) (by kernel_rfl) (by kernel_rfl) rfl (by rfl) (fun W hSw => by go_simp) (fun _ _ _ h => h) HS.out ?_
      try simp only [Act.put, List.setIfInBounds_toArray, List.set_cons_zero, List.set_cons_succ]
      refine hd_take 11 (o := ⟨some 8, _, _, _, _, _⟩) (.bool true) (by kernel_rfl) (by kernel_rfl) (by kernel_rfl) rfl (by rfl) (fun W hSw => by go_simp) (fun _ _ _ h => h) HS.out ?_
      try simp only [Act.put, List.setIfInBounds_toArray, List.set_cons_zero, List.set_cons_succ]
      refine wpAnyH_done (by kernel_rfl) ?_ _
      go_wp2_with fail
      go_ret
      exact ⟨rfl, F2, VNn.out, HXt.out.trans (ext_below KBv.out)⟩
    · refine hd_take 5 (o := ⟨some 107, _, _, _, _, _⟩) (.bool true) (by kernel_rfl) (by kernel_rfl) (by kernel_rfl) rfl (by rfl) (fun W hSw => by exact run_neqB (bs (lvb rs)).toArray (bs (lvb rs2)).toArray false (fun W => by rw [eq_bs 9998]; exact congrArg (fun b => Result.ok b W) (by simpa using hall)) (by kernel_rfl) _ _ rfl rfl rfl) (fun _ _ _ h => h) HS.out ?_
      try simp only [Act.put, List.setIfInBounds_toArray, List.set_cons_zero, List.set_cons_succ]
      refine hd_take 6 (o := ⟨some 108, _, _, _, _, _⟩) (.bool true) (by kernel_rfl) (by kernel_rfl) (by kernel_rfl) rfl (by rfl) (fun W hSw => by go_simp) (fun _ _ _ h => h) HS.out ?_
      try simp only [Act.put, List.setIfInBounds_toArray, List.set_cons_zero, List.set_cons_succ]
      refine hd_skip 7 (o := ⟨some 109, _, _, _, _, _⟩) (by kernel_rfl) (by kernel_rfl) (by kernel_rfl) rfl (by rfl) (fun _ _ _ h => h) HS.out ?_
      try simp only [Act.put, List.setIfInBounds_toArray, List.set_cons_zero, List.set_cons_succ]
      refine hd_skip 8 (o := ⟨some 110, _, _, _, _, _⟩) (by kernel_rfl) (by kernel_rfl) (by kernel_rfl) rfl (by rfl) (fun _ _ _ h => h) HS.out ?_
      try simp only [Act.put, List.setIfInBounds_toArray, List.set_cons_zero, List.set_cons_succ]
      refine hd_skip 9 (o := ⟨some 111, _, _, _, _, _⟩) (by kernel_rfl) (by kernel_rfl) (by kernel_rfl) rfl (by rfl) (fun _ _ _ h => h) HS.out ?_
      try simp only [Act.put, List.setIfInBounds_toArray, List.set_cons_zero, List.set_cons_succ]
      refine hd_take 10 (o := ⟨some 112, _, _, _, _, _⟩) (.bool true) (by kernel_rfl) (by kernel_rfl) (by kernel_rfl) rfl (by rfl) (fun W hSw => by go_simp) (fun _ _ _ h => h) HS.out ?_
      try simp only [Act.put, List.setIfInBounds_toArray, List.set_cons_zero, List.set_cons_succ]
      refine hd_take 11 (o := ⟨some 8, _, _, _, _, _⟩) (.bool true) (by kernel_rfl) (by kernel_rfl) (by kernel_rfl) rfl (by rfl) (fun W hSw => by go_simp) (fun _ _ _ h => h) HS.out ?_
      try simp only [Act.put, List.setIfInBounds_toArray, List.set_cons_zero, List.set_cons_succ]
      refine wpAnyH_done (by kernel_rfl) ?_ _
      go_wp2_with fail
      go_ret
      exact ⟨rfl, F2, VNn.out, HXt.out.trans (ext_below KBv.out)⟩
end
end Go.Proofs.Ytoddadohmnaolaa

namespace Go.Proofs.Ytoddadohmnaolaa
open Go.ChangeShapes Go.WideShapes Go.ChangeAt Go.RowKit Go.Deep Go.Shelf Go.Great

section
variable {w : World} {F : Nat → Prop} {T B : Nat} {rs : List (Option Er)} {last : Int}
set_option maxRecDepth 100000 in
set_option maxHeartbeats 25600000 in
theorem comes_hi (h : Ns w F T B rs last) (kd t e n m : Int) (q : Qt) (g : Nat → Nat) (pc : Nat) (on : Bool) (hk : kd = 3) (h0 : 0 ≤ e) (h1 : ¬ e < 16) (cs : List Value) (hT : Tc cs (tf rs) (tg rs)) :
    Calls Try.prog 28 #[.pointer (some ⟨B, 0, none⟩), .pointer (some ⟨T, 0, none⟩), .agg #[.int .i64 kd, .int .i64 t, .int .i64 e, .int .i64 n, .int .i64 m, .int .i64 q.f, .int .i64 q.e, .int .i64 q.x, .int .u32 (g 0 : Nat), .int .u32 (g 1 : Nat), .int .u32 (g 2 : Nat), .int .u32 (g 3 : Nat), .int .u32 (g 4 : Nat), .int .u32 (g 5 : Nat), .int .u32 (g 6 : Nat), .int .u32 (g 7 : Nat), .int .u32 (pc : Nat), .bool on], .agg cs.toArray] w fun x w' => x = .returned (.bool true) ∧ Nx w F T B (nS kd e n m q g pc on rs last) (nL kd e n q rs last) w' := by
  have hNo : ∀ W, Ns W F T B rs last → Calls Try.prog 16 #[.pointer (some ⟨B, 0, none⟩), .pointer (some ⟨T, 0, none⟩), .agg #[.int .i64 kd, .int .i64 t, .int .i64 e, .int .i64 n, .int .i64 m, .int .i64 q.f, .int .i64 q.e, .int .i64 q.x, .int .u32 (g 0 : Nat), .int .u32 (g 1 : Nat), .int .u32 (g 2 : Nat), .int .u32 (g 3 : Nat), .int .u32 (g 4 : Nat), .int .u32 (g 5 : Nat), .int .u32 (g 6 : Nat), .int .u32 (g 7 : Nat), .int .u32 (pc : Nat), .bool on]] W fun x w' => x = .returned (.bool true) ∧ Nx W F T B (nS kd e n m q g pc on rs last) (nL kd e n q rs last) w' := fun W hW => noted_ex hW kd t e n m q g pc on
  have hCm : Cm rs (nS kd e n m q g pc on rs last) (if kd = 2 then e else if 0 ≤ e ∧ e < 16 then (tf rs e.toNat).pa else -1) := by
    subst hk; exact cm_destroy h.iv
  obtain ⟨rs2, hrs2⟩ : ∃ x, nS kd e n m q g pc on rs last = x := ⟨_, rfl⟩
  obtain ⟨last2, hlast2⟩ : ∃ x, nL kd e n q rs last = x := ⟨_, rfl⟩
  rw [hrs2] at hCm
  rw [hrs2, hlast2] at hNo
  rw [hrs2, hlast2]
  clear hrs2 hlast2
  obtain ⟨os, hos⟩ : ∃ os, os = opL kd t e n m q g pc on := ⟨_, rfl⟩
  have hoa : (#[.int .i64 kd, .int .i64 t, .int .i64 e, .int .i64 n, .int .i64 m, .int .i64 q.f, .int .i64 q.e, .int .i64 q.x, .int .u32 (g 0 : Nat), .int .u32 (g 1 : Nat), .int .u32 (g 2 : Nat), .int .u32 (g 3 : Nat), .int .u32 (g 4 : Nat), .int .u32 (g 5 : Nat), .int .u32 (g 6 : Nat), .int .u32 (g 7 : Nat), .int .u32 (pc : Nat), .bool on] : Array Value) = os.toArray := by rw [hos]; rfl
  rw [hoa] at hNo
  rw [hoa]
  have HO := hide hos
  have HCmm := hide hCm
  have HNo := hide hNo
  have HT1 := hide hT
  clear hos hoa hCm hNo hT
  have hb1 := (Below.refl w.heap.size w).alloc (Nat.le_refl _) (.cells os.toArray 47)
  have a1 := heap_alloc_new w (.cells os.toArray 47)
  have hn1 : (w.alloc (.cells os.toArray 47)).heap.size = w.heap.size + 1 := by simp
  have hb2 := hb1.alloc (by simp) (.cells cs.toArray 52)
  have a2 := heap_alloc_new (w.alloc (.cells os.toArray 47)) (.cells cs.toArray 52)
  have hn2 : ((w.alloc (.cells os.toArray 47)).alloc (.cells cs.toArray 52)).heap.size = w.heap.size + 2 := by simp
  rw [hn1] at a2
  have b1 : ((w.alloc (.cells os.toArray 47)).alloc (.cells cs.toArray 52)).heap[w.heap.size]? = some (.cells os.toArray 47 (0, 0)) := by rw [Below.heap_alloc _ _ _ (by rw [hn1]; omega)]; exact a1
  have HNs := hide (h.below hb2)
  have HB2 := hide hb2
  have A1 := hide b1
  have A2 := hide a2
  have HBl := hide h.bq.lt
  have HFl := hide h.et.lt
  have HFB := hide h.ne
  have HSz := hide hn2
  clear h hb1 a1 hn1 hb2 a2 hn2 b1
  go_enter Try.func28, Try.ntmps28
  go_upto_region 1 with fail
  generalize (w.alloc (.cells os.toArray 47)).alloc (.cells cs.toArray 52) = w2 at *
  obtain ⟨N, hN⟩ : ∃ N, N = w.heap.size := ⟨_, rfl⟩
  rw [← hN] at A1 A2 HB2 HBl HFl HSz ⊢
  have HN := hide hN
  clear hN
  have HLs : Hid (∀ (i : Nat) (y : Value), (bs (lvb rs))[i]? = some y → w2.cell? ((⟨B, 0, none⟩ : Addr).add i) = some y) := hide (fun i y hy => by
    have hi : i < 16 := by have := (List.getElem?_eq_some_iff.1 hy).1; rw [bs_len] at this; exact this
    rw [bs_get _ hi] at hy
    cases hy
    rw [add_nat]; exact (HNs.out.bq.cell hi).1)
  have hz := heap_alloc_new w2 (.cells (bs (fun _ => false)).toArray 55)
  have hb3 := freshB_below w2 (lvb rs)
  have A3 := hide (freshB_at w2 (lvb rs))
  have A1b := hide ((hb3.block N (Array.getElem?_eq_some_iff.1 A1.out).1).trans A1.out)
  have A2b := hide ((hb3.block (N + 1) (Array.getElem?_eq_some_iff.1 A2.out).1).trans A2.out)
  have HNs3 := hide (HNs.out.below hb3)
  have HB3 := hide (HB2.out.trans (hb3.mono (by rw [HSz.out]; omega)))
  have HL2 := hide (show N + 1 < w2.heap.size by rw [HSz.out]; omega)
  clear hb3 A1 A2 HNs HB2 HSz
  go_upto_region 2 with (first
    | (refine loadT Try.underlying55 rfl (bs (lvb rs)) (by rw [bs_len]; exact infoBs) rfl _ rfl ⟨B, 0, none⟩ rfl HLs.out ?_)
    | (refine storeT (bs (lvb rs)) (by rw [bs_len]; exact infoBs) (bs_one _) rfl _ _ rfl w2.heap.size 0 rfl rfl (bs (fun _ => false)) hz (by rw [bs_len, bs_len]; exact Nat.le_refl _) ?_; change wpList _ _ _ _ _ (freshB w2 (lvb rs)); generalize freshB w2 (lvb rs) = w3 at *))
  clear hz HLs
  generalize w2.heap.size = L at *
  have HOs := hide (show ∀ (i : Nat) (y : Value), os[i]? = some y → w3.cell? ((⟨N, 0, none⟩ : Addr).add i) = some y from fun i y hy => by rw [add_nat, cell_of_row _ _ _ _ _ _ A1b.out]; simpa using hy)
  have hol : (Try.prog.info? 47).map (·.size) = some os.length := by rw [HO.out]; exact infoOp
  go_wp2_with (refine loadT Try.underlying47 rfl os hol rfl _ rfl ⟨N, 0, none⟩ rfl HOs.out ?_)
  refine (HNo.out w3 HNs3.out).mono ?_
  rintro x4 w4 ⟨rfl, F2, hN4, hX4⟩
  have hFn : ∀ b, N ≤ b → ¬ wi B F b := fun b hb e9 => by
    rcases e9 with e9 | e9
    · have := HBl.out; omega
    · have := HFl.out b e9; omega
  have A1c := hide ((hX4.mod.block N (Array.getElem?_eq_some_iff.1 A1b.out).1 (hFn N (Nat.le_refl _))).trans A1b.out)
  have A2c := hide ((hX4.mod.block (N + 1) (Array.getElem?_eq_some_iff.1 A2b.out).1 (hFn (N + 1) (by omega))).trans A2b.out)
  have A3c := hide ((hX4.mod.block L (Array.getElem?_eq_some_iff.1 A3.out).1 (hFn L (by have := HL2.out; omega))).trans A3.out)
  have HX4 := hide ((ext_below (F := wi B F) (by have h9 := HB3.out; rw [HN.out] at h9; exact h9)).trans hX4)
  have HTd := hide (told_any hN4.et)
  have HN4 := hide hN4
  clear hN4 hX4 hFn A1b A2b A3 HB3 HNs3 HNo HOs hol
  go_wp2_with fail
  refine HTd.out.mono ?_
  rintro x5 w5 ⟨cs2, rfl, hT2, hb5⟩
  have hb6 := freshT_below w5 cs2
  have hb56 := hb5.trans (hb6.mono hb5.size)
  have U1 := hide ((hb56.block N (Array.getElem?_eq_some_iff.1 A1c.out).1).trans A1c.out)
  have U2 := hide ((hb56.block (N + 1) (Array.getElem?_eq_some_iff.1 A2c.out).1).trans A2c.out)
  have U3 := hide ((hb56.block L (Array.getElem?_eq_some_iff.1 A3c.out).1).trans A3c.out)
  have U4 := hide (freshT_tb w5 hT2.len).out
  have UN := hide (HN4.out.below hb56)
  have HXt := hide (HX4.out.trans (ext_below (F := wi B F2) hb56))
  have HT2 := hide hT2
  have hi : (Try.prog.info? 52).map (·.size) = some cs2.length := by rw [hT2.len]; exact infoTold
  have hle : 0 + cs2.length ≤ zT.length := by rw [zT_tc.len, hT2.len]; omega
  clear hb5 hb6 hb56 hT2 A1c A2c A3c HN4 HX4 HTd
  go_upto_region 6 with (first
    | (refine allocTold rfl rfl ?_)
    | (refine storeT cs2 hi HT2.out.one rfl _ _ rfl w5.heap.size 0 rfl rfl zT (heap_alloc_new w5 _) hle ?_; change wpList _ _ _ _ _ (freshT w5 cs2); generalize freshT w5 cs2 = u at *))
  generalize w5.heap.size = M at *
  clear hi hle
  have e2 : u.cell? ⟨N, 2, none⟩ = some (.int .i64 e) := by rw [cell_of_row _ _ _ _ _ _ U1.out, HO.out]; rfl
  have e0 : u.cell? ⟨N, 0, none⟩ = some (.int .i64 kd) := by rw [cell_of_row _ _ _ _ _ _ U1.out, HO.out]; rfl
  subst hk
  have hC3 := HCmm.out
  rw [if_neg (by decide)] at hC3
  rw [if_neg (by omega)] at hC3
  have HCm := hide hC3
  clear hC3 HCmm
  go_upto_region 12 with fail
  clear e0 e2 U1 HO h0 h1
  obtain ⟨pr, hpr⟩ : ∃ pr : Int, -1 = pr := ⟨_, rfl⟩
  rw [hpr] at HCm ⊢
  clear hpr
  go_loopw [13] (fun x wr => ∃ j : Nat, j ≤ 16 ∧ x = .int .i64 (j : Int) ∧ Hid (Below u.heap.size u wr)) (fun x _ => 16 - (intOf x).toNat)
  case atStart => exact ⟨0, by omega, rfl, hide (Below.refl _ _)⟩
  case round =>
  obtain ⟨j, hj, rfl, KB⟩ := hrel
  by_cases h16 : j < 16
  · have hd : decide ((j : Int) < 16) = true := by simp; omega
    have hj3 : (j : Int) < 16 := by omega
    have VNv : ∀ {x : World}, Hid (Below u.heap.size u x) → Ns x F2 T B rs2 last2 := fun k => UN.out.below k.out
    have c2 := ((VNv KB).bq.cell h16).1
    have VL := (KB.out.block _ (Array.getElem?_eq_some_iff.1 U3.out).1).trans U3.out
    have c1 : wr.cell? ⟨L, j, none⟩ = some (.bool (lvb rs j)) := by
      rw [cell_of_row _ _ _ _ _ _ VL]
      simpa using bs_get (lvb rs) h16
    clear VL
    go_upto_region 14 with fail
    by_cases hl : lvb rs j = lvb rs2 j
    · clear VNv
      have hab : (lvb rs j == lvb rs2 j) = true := by rw [hl]; simp
      have HG := hide (HCm.out.g j h16 hl)
      have HFf := hide (HCm.out.f j h16 hl)
      obtain ⟨b1, hb1⟩ : ∃ b, b = lvb rs j := ⟨_, rfl⟩
      obtain ⟨b2, hb2⟩ : ∃ b, b = lvb rs2 j := ⟨_, rfl⟩
      rw [← hb1, ← hb2] at hab
      rw [← hb1] at c1
      rw [← hb2] at c2
      clear hb1 hb2 hl
      go_quiet (fail)
      have KBv := hide (KB.out.trans ((show Below wr.heap.size wr (wr.drewN nq) from ⟨rfl, rfl, rfl, Nat.le_refl _, fun _ _ => rfl⟩).mono KB.out.size))
      clear c1 c2 KB
      generalize wr.drewN nq = v at *
      have VA := (KBv.out.block _ (Array.getElem?_eq_some_iff.1 U2.out).1).trans U2.out
      obtain ⟨s1, _⟩ := tc_env VA HT1.out h16
      obtain ⟨r1, hr1⟩ : ∃ r, tf rs j = r := ⟨_, rfl⟩
      obtain ⟨r2, hr2⟩ : ∃ r, tf rs2 j = r := ⟨_, rfl⟩
      obtain ⟨z, hz1⟩ : ∃ z, tg rs j = z := ⟨_, rfl⟩
      have HG1 := hide hz1
      have HG2 := hide (show tg rs2 j = z by rw [← HG.out]; exact hz1)
      have HR2 := hide hr2
      have hFf := HFf.out
      rw [hr1, hr2] at hFf
      rw [hr1] at s1
      have HFg := hide hFf
      have HS1 := hide s1
      clear hr1 hr2 hz1 hFf HFf HG s1 VA
      have hz : Eb (v.alloc (.cells Er.nil.head.toArray 41)) v.heap.size Er.nil := Eb.new _ _
      have HX2 := hide (freshE_eb v r1)
      have KBv2 := hide (KBv.out.trans ((freshE_below v r1).mono KBv.out.size))
      go_upto_region 18 with (first
        | (refine loadT Try.underlying41 rfl r1.head (by rw [head_len]; exact infoE) rfl _ rfl ⟨N + 1, j * 21, none⟩ rfl HS1.out ?_)
        | (refine storeE r1 ?nw2 _ _ rfl v.heap.size Er.nil ?nx2 ?ny2 ?nz2 ?_; rotate_left 4; change wpList _ _ _ _ _ (freshE v r1); generalize freshE v r1 = v2 at *))
      try (case nw2 => rfl)
      try (case nx2 => rfl)
      try (case ny2 => rfl)
      try (case nz2 => exact hz)
      have HXn : Hid (u.heap.size ≤ v.heap.size) := hide KBv.out.size
      clear hz HS1 KBv hab
      generalize v.heap.size = X at *
      by_cases hp : (j : Int) = pr
      · have hpb : ((j : Int) == pr) = true := by simp [hp]
        have hE : ({ r1 with lf := r2.lf } : Er).head = r2.head := by have := HFg.out; rw [if_pos hp] at this; exact this
        have HE := hide hE
        clear hE hp HFg
        have VM := (KBv2.out.block _ (Array.getElem?_eq_some_iff.1 U4.out).1).trans U4.out
        have HCq : Hid (∀ (i : Nat) (y : Value), (qtL r2.lf)[i]? = some y → v2.cell? ((⟨M, j * 21 + 18, none⟩ : Addr).add i) = some y) := hide (fun i y hy => by
          have hi : i < 3 := (List.getElem?_eq_some_iff.1 hy).1
          have h9 := (tc_env VM HT2.out h16).1 (18 + i) y (by
            rw [HR2.out, show r2.head = r2.head.take 18 ++ qtL r2.lf from rfl, List.getElem?_append_right (by simp [Er.head])]
            simpa [Er.head] using hy)
          rw [add_off] at h9 ⊢
          rw [Nat.add_assoc]; exact h9)
        have HX3 := hide (show Eb (v2.setCells X 18 (qtL r2.lf)) X { r1 with lf := r2.lf } from ⟨by rw [heap_setCells_row X _ (qtL r2.lf) 18 v2 _ HX2.out.out]; rfl⟩)
        have KBv3 := hide (below_setCells KBv2.out HXn.out 18 (qtL r2.lf))
        clear VM
        go_upto_region 20 with (first
          | (refine loadT Try.underlying39 rfl (qtL r2.lf) infoQt rfl _ rfl ⟨M, j * 21 + 18, none⟩ rfl HCq.out ?_)
          | (refine storeT (qtL r2.lf) infoQt (qtL_one r2.lf) rfl _ _ rfl X 18 rfl rfl r1.head HX2.out.out (by rw [head_len]; exact (by decide : 18 + 3 ≤ 21)) ?_; generalize v2.setCells X 18 (qtL r2.lf) = v3 at *))
        clear hpb HCq HX2 KBv2
        obtain ⟨v4, hdv4⟩ : ∃ v, v = v3.drew := ⟨_, rfl⟩
        have KBv4 := hide (KBv3.out.trans ((show Below v3.heap.size v3 v4 by rw [hdv4]; exact ⟨rfl, rfl, rfl, Nat.le_refl _, fun _ _ => rfl⟩).mono KBv3.out.size))
        have HX4 := hide (HX3.out.keep ((show Below v3.heap.size v3 v4 by rw [hdv4]; exact ⟨rfl, rfl, rfl, Nat.le_refl _, fun _ _ => rfl⟩).block X HX3.out.lt))
        have VA := (KBv4.out.block _ (Array.getElem?_eq_some_iff.1 U2.out).1).trans U2.out
        have VM := (KBv4.out.block _ (Array.getElem?_eq_some_iff.1 U4.out).1).trans U4.out
        obtain ⟨_, s3⟩ := tc_env VA HT1.out h16
        obtain ⟨s2, s4⟩ := tc_env VM HT2.out h16
        rw [HG1.out] at s3
        rw [HR2.out] at s2
        rw [HG2.out] at s4
        have HS : Hid ((∀ (i : Nat) (y : Value), r2.head[i]? = some y → v4.cell? ((⟨X, 0, none⟩ : Addr).add i) = some y) ∧ (∀ (i : Nat) (y : Value), r2.head[i]? = some y → v4.cell? ((⟨M, j * 21, none⟩ : Addr).add i) = some y) ∧ v4.cell? ⟨N + 1, 336 + j, none⟩ = some (.int .i64 z) ∧ v4.cell? ⟨M, 336 + j, none⟩ = some (.int .i64 z)) := hide ⟨fun i y hy => HX4.out.hcell i y (by rw [HE.out]; exact hy), s2, s3, s4⟩
        clear s2 s3 s4 VA VM
        refine wp_region_held_drew (S := fun W => (∀ (i : Nat) (y : Value), r2.head[i]? = some y → W.cell? ((⟨X, 0, none⟩ : Addr).add i) = some y) ∧ (∀ (i : Nat) (y : Value), r2.head[i]? = some y → W.cell? ((⟨M, j * 21, none⟩ : Addr).add i) = some y) ∧ W.cell? ⟨N + 1, 336 + j, none⟩ = some (.int .i64 z) ∧ W.cell? ⟨M, 336 + j, none⟩ = some (.int .i64 z)) (by kernel_rfl) (by rw [← hdv4]; exact HS.out) (fun _ => ?_)
        rw [← hdv4]
        clear hdv4
        refine hd_take 0 (o := ⟨some 85, _, _, _, _, _⟩) (.agg r2.head.toArray) (by kernel_rfl) (by kernel_rfl) (by kernel_rfl) rfl (by rfl) (fun W hSw => by obtain ⟨s1, s2, s3, s4⟩ := hSw; exact run_loadT Try.underlying41 rfl r2.head (by rw [head_len]; exact infoE) _ rfl ⟨X, 0, none⟩ rfl s1) (fun _ _ _ h => h) HS.out ?_
        try simp only [Act.put, List.setIfInBounds_toArray, List.set_cons_zero, List.set_cons_succ]
        refine hd_take 1 (o := ⟨some 86, _, _, _, _, _⟩) (.int .i64 (j : Int)) (by kernel_rfl) (by kernel_rfl) (by kernel_rfl) rfl (by rfl) (fun W hSw => by go_simp) (fun _ _ _ h => h) HS.out ?_
        try simp only [Act.put, List.setIfInBounds_toArray, List.set_cons_zero, List.set_cons_succ]
        refine hd_take 2 (o := ⟨some 87, _, _, _, _, _⟩) (.pointer (some ⟨M, 0, none⟩)) (by kernel_rfl) (by kernel_rfl) (by kernel_rfl) rfl (by rfl) (fun W hSw => by go_simp) (fun _ _ _ h => h) HS.out ?_
        try simp only [Act.put, List.setIfInBounds_toArray, List.set_cons_zero, List.set_cons_succ]
        refine hd_take 3 (o := ⟨some 88, _, _, _, _, _⟩) (.pointer (some ⟨M, j * 21, none⟩)) (by kernel_rfl) (by kernel_rfl) (by kernel_rfl) rfl (by rfl) (fun W hSw => by go_simp) (fun _ _ _ h => h) HS.out ?_
        try simp only [Act.put, List.setIfInBounds_toArray, List.set_cons_zero, List.set_cons_succ]
        refine hd_take 4 (o := ⟨some 89, _, _, _, _, _⟩) (.agg r2.head.toArray) (by kernel_rfl) (by kernel_rfl) (by kernel_rfl) rfl (by rfl) (fun W hSw => by obtain ⟨s1, s2, s3, s4⟩ := hSw; exact run_loadT Try.underlying41 rfl r2.head (by rw [head_len]; exact infoE) _ rfl ⟨M, j * 21, none⟩ rfl s2) (fun _ _ _ h => h) HS.out ?_
        try simp only [Act.put, List.setIfInBounds_toArray, List.set_cons_zero, List.set_cons_succ]
        refine hd_take 5 (o := ⟨some 90, _, _, _, _, _⟩) (.bool false) (by kernel_rfl) (by kernel_rfl) (by kernel_rfl) rfl (by rfl) (fun W hSw => by exact run_neqT r2.head.toArray (se_env 9996 r2) (by kernel_rfl) _ _ rfl rfl rfl) (fun _ _ _ h => h) HS.out ?_
        try simp only [Act.put, List.setIfInBounds_toArray, List.set_cons_zero, List.set_cons_succ]
        refine hd_take 6 (o := ⟨some 91, _, _, _, _, _⟩) (.bool false) (by kernel_rfl) (by kernel_rfl) (by kernel_rfl) rfl (by rfl) (fun W hSw => by go_simp) (fun _ _ _ h => h) HS.out ?_
        try simp only [Act.put, List.setIfInBounds_toArray, List.set_cons_zero, List.set_cons_succ]
        refine hd_take 7 (o := ⟨some 92, _, _, _, _, _⟩) (.int .i64 (j : Int)) (by kernel_rfl) (by kernel_rfl) (by kernel_rfl) rfl (by rfl) (fun W hSw => by go_simp) (fun _ _ _ h => h) HS.out ?_
        try simp only [Act.put, List.setIfInBounds_toArray, List.set_cons_zero, List.set_cons_succ]
        refine hd_take 8 (o := ⟨some 93, _, _, _, _, _⟩) (.pointer (some ⟨N + 1, 336, none⟩)) (by kernel_rfl) (by kernel_rfl) (by kernel_rfl) rfl (by rfl) (fun W hSw => by go_simp) (fun _ _ _ h => h) HS.out ?_
        try simp only [Act.put, List.setIfInBounds_toArray, List.set_cons_zero, List.set_cons_succ]
        refine hd_take 9 (o := ⟨some 94, _, _, _, _, _⟩) (.pointer (some ⟨N + 1, 336 + j, none⟩)) (by kernel_rfl) (by kernel_rfl) (by kernel_rfl) rfl (by rfl) (fun W hSw => by go_simp) (fun _ _ _ h => h) HS.out ?_
        try simp only [Act.put, List.setIfInBounds_toArray, List.set_cons_zero, List.set_cons_succ]
        refine hd_take 10 (o := ⟨some 95, _, _, _, _, _⟩) (.int .i64 z) (by kernel_rfl) (by kernel_rfl) (by kernel_rfl) rfl (by rfl) (fun W hSw => by obtain ⟨s1, s2, s3, s4⟩ := hSw; go_simp) (fun _ _ _ h => h) HS.out ?_
        try simp only [Act.put, List.setIfInBounds_toArray, List.set_cons_zero, List.set_cons_succ]
        refine hd_take 11 (o := ⟨some 96, _, _, _, _, _⟩) (.int .i64 (j : Int)) (by kernel_rfl) (by kernel_rfl) (by kernel_rfl) rfl (by rfl) (fun W hSw => by go_simp) (fun _ _ _ h => h) HS.out ?_
        try simp only [Act.put, List.setIfInBounds_toArray, List.set_cons_zero, List.set_cons_succ]
        refine hd_take 12 (o := ⟨some 97, _, _, _, _, _⟩) (.pointer (some ⟨M, 336, none⟩)) (by kernel_rfl) (by kernel_rfl) (by kernel_rfl) rfl (by rfl) (fun W hSw => by go_simp) (fun _ _ _ h => h) HS.out ?_
        try simp only [Act.put, List.setIfInBounds_toArray, List.set_cons_zero, List.set_cons_succ]
        refine hd_take 13 (o := ⟨some 98, _, _, _, _, _⟩) (.pointer (some ⟨M, 336 + j, none⟩)) (by kernel_rfl) (by kernel_rfl) (by kernel_rfl) rfl (by rfl) (fun W hSw => by go_simp) (fun _ _ _ h => h) HS.out ?_
        try simp only [Act.put, List.setIfInBounds_toArray, List.set_cons_zero, List.set_cons_succ]
        refine hd_take 14 (o := ⟨some 99, _, _, _, _, _⟩) (.int .i64 z) (by kernel_rfl) (by kernel_rfl) (by kernel_rfl) rfl (by rfl) (fun W hSw => by obtain ⟨s1, s2, s3, s4⟩ := hSw; go_simp) (fun _ _ _ h => h) HS.out ?_
        try simp only [Act.put, List.setIfInBounds_toArray, List.set_cons_zero, List.set_cons_succ]
        refine hd_take 15 (o := ⟨some 100, _, _, _, _, _⟩) (.bool false) (by kernel_rfl) (by kernel_rfl) (by kernel_rfl) rfl (by rfl) (fun W hSw => by go_simp) (fun _ _ _ h => h) HS.out ?_
        try simp only [Act.put, List.setIfInBounds_toArray, List.set_cons_zero, List.set_cons_succ]
        refine hd_take 16 (o := ⟨some 101, _, _, _, _, _⟩) (.bool false) (by kernel_rfl) (by kernel_rfl) (by kernel_rfl) rfl (by rfl) (fun W hSw => by go_simp) (fun _ _ _ h => h) HS.out ?_
        try simp only [Act.put, List.setIfInBounds_toArray, List.set_cons_zero, List.set_cons_succ]
        refine wpAnyH_done (by kernel_rfl) ?_ _
        clear HS
        go_wp2_with fail
        go_roundw
        case rel =>
          first
            | exact ⟨j + 1, by omega, by go_num, KBv4⟩
            | ((repeat apply Exists.intro); refine ⟨?_, rfl⟩; exact ⟨j + 1, by omega, by go_num, KBv4⟩)
        case measure => simp [intOf]; omega
      · have hpb : ((j : Int) == pr) = false := by simp [hp]
        have hE : r1.head = r2.head := by have := HFg.out; rw [if_neg hp] at this; exact this
        have HE := hide hE
        clear hE hp HFg
        go_upto_region 20 with fail
        have HX3 := HX2
        have KBv3 := KBv2
        clear HX2 KBv2 hpb
        generalize v2 = v3 at *
        obtain ⟨v4, hdv4⟩ : ∃ v, v = v3.drew := ⟨_, rfl⟩
        have KBv4 := hide (KBv3.out.trans ((show Below v3.heap.size v3 v4 by rw [hdv4]; exact ⟨rfl, rfl, rfl, Nat.le_refl _, fun _ _ => rfl⟩).mono KBv3.out.size))
        have HX4 := hide (HX3.out.keep ((show Below v3.heap.size v3 v4 by rw [hdv4]; exact ⟨rfl, rfl, rfl, Nat.le_refl _, fun _ _ => rfl⟩).block X HX3.out.lt))
        have VA := (KBv4.out.block _ (Array.getElem?_eq_some_iff.1 U2.out).1).trans U2.out
        have VM := (KBv4.out.block _ (Array.getElem?_eq_some_iff.1 U4.out).1).trans U4.out
        obtain ⟨_, s3⟩ := tc_env VA HT1.out h16
        obtain ⟨s2, s4⟩ := tc_env VM HT2.out h16
        rw [HG1.out] at s3
        rw [HR2.out] at s2
        rw [HG2.out] at s4
        have HS : Hid ((∀ (i : Nat) (y : Value), r2.head[i]? = some y → v4.cell? ((⟨X, 0, none⟩ : Addr).add i) = some y) ∧ (∀ (i : Nat) (y : Value), r2.head[i]? = some y → v4.cell? ((⟨M, j * 21, none⟩ : Addr).add i) = some y) ∧ v4.cell? ⟨N + 1, 336 + j, none⟩ = some (.int .i64 z) ∧ v4.cell? ⟨M, 336 + j, none⟩ = some (.int .i64 z)) := hide ⟨fun i y hy => HX4.out.hcell i y (by rw [HE.out]; exact hy), s2, s3, s4⟩
        clear s2 s3 s4 VA VM
        refine wp_region_held_drew (S := fun W => (∀ (i : Nat) (y : Value), r2.head[i]? = some y → W.cell? ((⟨X, 0, none⟩ : Addr).add i) = some y) ∧ (∀ (i : Nat) (y : Value), r2.head[i]? = some y → W.cell? ((⟨M, j * 21, none⟩ : Addr).add i) = some y) ∧ W.cell? ⟨N + 1, 336 + j, none⟩ = some (.int .i64 z) ∧ W.cell? ⟨M, 336 + j, none⟩ = some (.int .i64 z)) (by kernel_rfl) (by rw [← hdv4]; exact HS.out) (fun _ => ?_)
        rw [← hdv4]
        clear hdv4
        refine hd_take 0 (o := ⟨some 85, _, _, _, _, _⟩) (.agg r2.head.toArray) (by kernel_rfl) (by kernel_rfl) (by kernel_rfl) rfl (by rfl) (fun W hSw => by obtain ⟨s1, s2, s3, s4⟩ := hSw; exact run_loadT Try.underlying41 rfl r2.head (by rw [head_len]; exact infoE) _ rfl ⟨X, 0, none⟩ rfl s1) (fun _ _ _ h => h) HS.out ?_
        try simp only [Act.put, List.setIfInBounds_toArray, List.set_cons_zero, List.set_cons_succ]
        refine hd_take 1 (o := ⟨some 86, _, _, _, _, _⟩) (.int .i64 (j : Int)) (by kernel_rfl) (by kernel_rfl) (by kernel_rfl) rfl (by rfl) (fun W hSw => by go_simp) (fun _ _ _ h => h) HS.out ?_
        try simp only [Act.put, List.setIfInBounds_toArray, List.set_cons_zero, List.set_cons_succ]
        refine hd_take 2 (o := ⟨some 87, _, _, _, _, _⟩) (.pointer (some ⟨M, 0, none⟩)) (by kernel_rfl) (by kernel_rfl) (by kernel_rfl) rfl (by rfl) (fun W hSw => by go_simp) (fun _ _ _ h => h) HS.out ?_
        try simp only [Act.put, List.setIfInBounds_toArray, List.set_cons_zero, List.set_cons_succ]
        refine hd_take 3 (o := ⟨some 88, _, _, _, _, _⟩) (.pointer (some ⟨M, j * 21, none⟩)) (by kernel_rfl) (by kernel_rfl) (by kernel_rfl) rfl (by rfl) (fun W hSw => by go_simp) (fun _ _ _ h => h) HS.out ?_
        try simp only [Act.put, List.setIfInBounds_toArray, List.set_cons_zero, List.set_cons_succ]
        refine hd_take 4 (o := ⟨some 89, _, _, _, _, _⟩) (.agg r2.head.toArray) (by kernel_rfl) (by kernel_rfl) (by kernel_rfl) rfl (by rfl) (fun W hSw => by obtain ⟨s1, s2, s3, s4⟩ := hSw; exact run_loadT Try.underlying41 rfl r2.head (by rw [head_len]; exact infoE) _ rfl ⟨M, j * 21, none⟩ rfl s2) (fun _ _ _ h => h) HS.out ?_
        try simp only [Act.put, List.setIfInBounds_toArray, List.set_cons_zero, List.set_cons_succ]
        refine hd_take 5 (o := ⟨some 90, _, _, _, _, _⟩) (.bool false) (by kernel_rfl) (by kernel_rfl) (by kernel_rfl) rfl (by rfl) (fun W hSw => by exact run_neqT r2.head.toArray (se_env 9996 r2) (by kernel_rfl) _ _ rfl rfl rfl) (fun _ _ _ h => h) HS.out ?_
        try simp only [Act.put, List.setIfInBounds_toArray, List.set_cons_zero, List.set_cons_succ]
        refine hd_take 6 (o := ⟨some 91, _, _, _, _, _⟩) (.bool false) (by kernel_rfl) (by kernel_rfl) (by kernel_rfl) rfl (by rfl) (fun W hSw => by go_simp) (fun _ _ _ h => h) HS.out ?_
        try simp only [Act.put, List.setIfInBounds_toArray, List.set_cons_zero, List.set_cons_succ]
        refine hd_take 7 (o := ⟨some 92, _, _, _, _, _⟩) (.int .i64 (j : Int)) (by kernel_rfl) (by kernel_rfl) (by kernel_rfl) rfl (by rfl) (fun W hSw => by go_simp) (fun _ _ _ h => h) HS.out ?_
        try simp only [Act.put, List.setIfInBounds_toArray, List.set_cons_zero, List.set_cons_succ]
        refine hd_take 8 (o := ⟨some 93, _, _, _, _, _⟩) (.pointer (some ⟨N + 1, 336, none⟩)) (by kernel_rfl) (by kernel_rfl) (by kernel_rfl) rfl (by rfl) (fun W hSw => by go_simp) (fun _ _ _ h => h) HS.out ?_
        try simp only [Act.put, List.setIfInBounds_toArray, List.set_cons_zero, List.set_cons_succ]
        refine hd_take 9 (o := ⟨some 94, _, _, _, _, _⟩) (.pointer (some ⟨N + 1, 336 + j, none⟩)) (by kernel_rfl) (by kernel_rfl) (by kernel_rfl) rfl (by rfl) (fun W hSw => by go_simp) (fun _ _ _ h => h) HS.out ?_
        try simp only [Act.put, List.setIfInBounds_toArray, List.set_cons_zero, List.set_cons_succ]
        refine hd_take 10 (o := ⟨some 95, _, _, _, _, _⟩) (.int .i64 z) (by kernel_rfl) (by kernel_rfl) (by kernel_rfl) rfl (by rfl) (fun W hSw => by obtain ⟨s1, s2, s3, s4⟩ := hSw; go_simp) (fun _ _ _ h => h) HS.out ?_
        try simp only [Act.put, List.setIfInBounds_toArray, List.set_cons_zero, List.set_cons_succ]
        refine hd_take 11 (o := ⟨some 96, _, _, _, _, _⟩) (.int .i64 (j : Int)) (by kernel_rfl) (by kernel_rfl) (by kernel_rfl) rfl (by rfl) (fun W hSw => by go_simp) (fun _ _ _ h => h) HS.out ?_
        try simp only [Act.put, List.setIfInBounds_toArray, List.set_cons_zero, List.set_cons_succ]
        refine hd_take 12 (o := ⟨some 97, _, _, _, _, _⟩) (.pointer (some ⟨M, 336, none⟩)) (by kernel_rfl) (by kernel_rfl) (by kernel_rfl) rfl (by rfl) (fun W hSw => by go_simp) (fun _ _ _ h => h) HS.out ?_
        try simp only [Act.put, List.setIfInBounds_toArray, List.set_cons_zero, List.set_cons_succ]
        refine hd_take 13 (o := ⟨some 98, _, _, _, _, _⟩) (.pointer (some ⟨M, 336 + j, none⟩)) (by kernel_rfl) (by kernel_rfl) (by kernel_rfl) rfl (by rfl) (fun W hSw => by go_simp) (fun _ _ _ h => h) HS.out ?_
        try simp only [Act.put, List.setIfInBounds_toArray, List.set_cons_zero, List.set_cons_succ]
        refine hd_take 14 (o := ⟨some 99, _, _, _, _, _⟩) (.int .i64 z) (by kernel_rfl) (by kernel_rfl) (by kernel_rfl) rfl (by rfl) (fun W hSw => by obtain ⟨s1, s2, s3, s4⟩ := hSw; go_simp) (fun _ _ _ h => h) HS.out ?_
        try simp only [Act.put, List.setIfInBounds_toArray, List.set_cons_zero, List.set_cons_succ]
        refine hd_take 15 (o := ⟨some 100, _, _, _, _, _⟩) (.bool false) (by kernel_rfl) (by kernel_rfl) (by kernel_rfl) rfl (by rfl) (fun W hSw => by go_simp) (fun _ _ _ h => h) HS.out ?_
        try simp only [Act.put, List.setIfInBounds_toArray, List.set_cons_zero, List.set_cons_succ]
        refine hd_take 16 (o := ⟨some 101, _, _, _, _, _⟩) (.bool false) (by kernel_rfl) (by kernel_rfl) (by kernel_rfl) rfl (by rfl) (fun W hSw => by go_simp) (fun _ _ _ h => h) HS.out ?_
        try simp only [Act.put, List.setIfInBounds_toArray, List.set_cons_zero, List.set_cons_succ]
        refine wpAnyH_done (by kernel_rfl) ?_ _
        clear HS
        go_wp2_with fail
        go_roundw
        case rel =>
          first
            | exact ⟨j + 1, by omega, by go_num, KBv4⟩
            | ((repeat apply Exists.intro); refine ⟨?_, rfl⟩; exact ⟨j + 1, by omega, by go_num, KBv4⟩)
        case measure => simp [intOf]; omega
    · rcases lvb_cases rs2 j with ⟨_, _, h2, _, h3⟩ | ⟨_, h2, _, h3⟩
      · have h1 : lvb rs j = false := by cases hq : lvb rs j with
          | true => rw [hq, h2] at hl; exact (hl rfl).elim
          | false => rfl
        clear hl
        rw [h1] at c1
        rw [h2] at c2
        go_quiet (fail)
        have KBv := hide (KB.out.trans ((show Below wr.heap.size wr (wr.drewN nq) from ⟨rfl, rfl, rfl, Nat.le_refl _, fun _ _ => rfl⟩).mono KB.out.size))
        clear c1 c2 KB
        generalize wr.drewN nq = v at *
        have VM := (KBv.out.block _ (Array.getElem?_eq_some_iff.1 U4.out).1).trans U4.out
        obtain ⟨_, s4⟩ := tc_env VM HT2.out h16
        rw [h3] at s4
        have c2 := (VNv KBv).bq.cell h16
        rw [h2] at c2
        have c3 := c2.1
        clear c2 VM
        go_upto_region 15 with fail
        go_quiet (fail)
        have KBw := hide (KBv.out.trans ((show Below v.heap.size v (v.drewN nq) from ⟨rfl, rfl, rfl, Nat.le_refl _, fun _ _ => rfl⟩).mono KBv.out.size))
        clear KBv c3 s4
        generalize v.drewN nq = v2 at *
        go_wp2_with fail
        go_roundw
        case rel =>
          first
            | exact ⟨j + 1, by omega, by go_num, KBw⟩
            | ((repeat apply Exists.intro); refine ⟨?_, rfl⟩; exact ⟨j + 1, by omega, by go_num, KBw⟩)
        case measure => simp [intOf]; omega
      · have h1 : lvb rs j = true := by cases hq : lvb rs j with
          | false => rw [hq, h2] at hl; exact (hl rfl).elim
          | true => rfl
        clear hl
        rw [h1] at c1
        rw [h2] at c2
        go_quiet (fail)
        have KBv := hide (KB.out.trans ((show Below wr.heap.size wr (wr.drewN nq) from ⟨rfl, rfl, rfl, Nat.le_refl _, fun _ _ => rfl⟩).mono KB.out.size))
        clear c1 c2 KB
        generalize wr.drewN nq = v at *
        have VM := (KBv.out.block _ (Array.getElem?_eq_some_iff.1 U4.out).1).trans U4.out
        obtain ⟨_, s4⟩ := tc_env VM HT2.out h16
        rw [h3] at s4
        have c2 := (VNv KBv).bq.cell h16
        rw [h2] at c2
        have c3 := c2.1
        clear c2 VM
        go_upto_region 15 with fail
        go_quiet (fail)
        have KBw := hide (KBv.out.trans ((show Below v.heap.size v (v.drewN nq) from ⟨rfl, rfl, rfl, Nat.le_refl _, fun _ _ => rfl⟩).mono KBv.out.size))
        clear KBv c3 s4
        generalize v.drewN nq = v2 at *
        go_wp2_with fail
        go_roundw
        case rel =>
          first
            | exact ⟨j + 1, by omega, by go_num, KBw⟩
            | ((repeat apply Exists.intro); refine ⟨?_, rfl⟩; exact ⟨j + 1, by omega, by go_num, KBw⟩)
        case measure => simp [intOf]; omega
  · obtain rfl : j = 16 := by omega
    go_upto_region 22 with fail
    obtain ⟨v, hdv⟩ : ∃ v, v = wr.drew := ⟨_, rfl⟩
    have KBv := hide (KB.out.trans ((show Below wr.heap.size wr v by rw [hdv]; exact ⟨rfl, rfl, rfl, Nat.le_refl _, fun _ _ => rfl⟩).mono KB.out.size))
    clear KB
    have VA := (KBv.out.block _ (Array.getElem?_eq_some_iff.1 U2.out).1).trans U2.out
    have VL := (KBv.out.block _ (Array.getElem?_eq_some_iff.1 U3.out).1).trans U3.out
    have VM := (KBv.out.block _ (Array.getElem?_eq_some_iff.1 U4.out).1).trans U4.out
    have VNn := hide (UN.out.below KBv.out)
    have HS : Hid (v.heap[L]? = some (.cells (bs (lvb rs)).toArray 55 (0, 0)) ∧ (∀ (i : Nat) (y : Value), (bs (lvb rs2))[i]? = some y → v.cell? ((⟨B, 0, none⟩ : Addr).add i) = some y) ∧ v.heap[M]? = some (.cells cs2.toArray 52 (0, 0)) ∧ v.heap[N + 1]? = some (.cells cs.toArray 52 (0, 0))) := hide ⟨VL, fun i y hy => by
      have hi : i < 16 := by have := (List.getElem?_eq_some_iff.1 hy).1; rw [bs_len] at this; exact this
      rw [bs_get _ hi] at hy
      cases hy
      rw [add_nat]; exact (VNn.out.bq.cell hi).1, VM, VA⟩
    clear VA VL VM
    refine wp_region_held_drew (S := fun W => W.heap[L]? = some (.cells (bs (lvb rs)).toArray 55 (0, 0)) ∧ (∀ (i : Nat) (y : Value), (bs (lvb rs2))[i]? = some y → W.cell? ((⟨B, 0, none⟩ : Addr).add i) = some y) ∧ W.heap[M]? = some (.cells cs2.toArray 52 (0, 0)) ∧ W.heap[N + 1]? = some (.cells cs.toArray 52 (0, 0))) (by kernel_rfl) (by rw [← hdv]; exact HS.out) (fun _ => ?_)
    rw [← hdv]
    clear hdv
    refine hd_take 0 (o := ⟨some 102, _, _, _, _, _⟩) (.agg (bs (lvb rs)).toArray) (by kernel_rfl) (by kernel_rfl) (by kernel_rfl) rfl (by rfl) (fun W hSw => by obtain ⟨s1, s2, s3, s4⟩ := hSw; exact run_loadT Try.underlying55 rfl (bs (lvb rs)) (by rw [bs_len]; exact infoBs) _ rfl ⟨L, 0, none⟩ rfl (fun i y hy => by rw [add_nat, cell_of_row _ _ _ _ _ _ s1]; simpa using hy)) (fun _ _ _ h => h) HS.out ?_
    try simp only [Act.put, List.setIfInBounds_toArray, List.set_cons_zero, List.set_cons_succ]
    refine hd_take 1 (o := ⟨some 103, _, _, _, _, _⟩) (.pointer (some ⟨B, 0, none⟩)) (by kernel_rfl) (by kernel_rfl) (by kernel_rfl) rfl (by rfl) (fun W hSw => by go_simp) (fun _ _ _ h => h) HS.out ?_
    try simp only [Act.put, List.setIfInBounds_toArray, List.set_cons_zero, List.set_cons_succ]
    refine hd_take 2 (o := ⟨some 104, _, _, _, _, _⟩) (.pointer (some ⟨B, 0, none⟩)) (by kernel_rfl) (by kernel_rfl) (by kernel_rfl) rfl (by rfl) (fun W hSw => by go_simp) (fun _ _ _ h => h) HS.out ?_
    try simp only [Act.put, List.setIfInBounds_toArray, List.set_cons_zero, List.set_cons_succ]
    refine hd_take 3 (o := ⟨some 105, _, _, _, _, _⟩) (.pointer (some ⟨B, 0, none⟩)) (by kernel_rfl) (by kernel_rfl) (by kernel_rfl) rfl (by rfl) (fun W hSw => by go_simp) (fun _ _ _ h => h) HS.out ?_
    try simp only [Act.put, List.setIfInBounds_toArray, List.set_cons_zero, List.set_cons_succ]
    refine hd_take 4 (o := ⟨some 106, _, _, _, _, _⟩) (.agg (bs (lvb rs2)).toArray) (by kernel_rfl) (by kernel_rfl) (by kernel_rfl) rfl (by rfl) (fun W hSw => by obtain ⟨s1, s2, s3, s4⟩ := hSw; exact run_loadT Try.underlying55 rfl (bs (lvb rs2)) (by rw [bs_len]; exact infoBs) _ rfl ⟨B, 0, none⟩ rfl s2) (fun _ _ _ h => h) HS.out ?_
    try simp only [Act.put, List.setIfInBounds_toArray, List.set_cons_zero, List.set_cons_succ]
    by_cases hall : (List.range 16).all (fun i => lvb rs i == lvb rs2 i) = true
    · have HCs : Hid (cs2 = cs) := hide (by
        have e9 := HCm.out.s (fun i hi => by
          have := List.all_eq_true.1 hall i (List.mem_range.2 hi)
          simpa using this)
        have h9 := HT2.out
        rw [e9] at h9
        exact h9.ext HT1.out (fun _ _ => rfl) (fun _ _ => rfl))
      refine hd_take 5 (o := ⟨some 107, _, _, _, _, _⟩) (.bool false) (by kernel_rfl) (by kernel_rfl) (by kernel_rfl) rfl (by rfl) (fun W hSw => by exact run_neqB (bs (lvb rs)).toArray (bs (lvb rs2)).toArray true (fun W => by rw [eq_bs 9998]; exact congrArg (fun b => Result.ok b W) hall) (by kernel_rfl) _ _ rfl rfl rfl) (fun _ _ _ h => h) HS.out ?_
      try simp only [Act.put, List.setIfInBounds_toArray, List.set_cons_zero, List.set_cons_succ]
      refine hd_take 6 (o := ⟨some 108, _, _, _, _, _⟩) (.bool false) (by kernel_rfl) (by kernel_rfl) (by kernel_rfl) rfl (by rfl) (fun W hSw => by go_simp) (fun _ _ _ h => h) HS.out ?_
      try simp only [Act.put, List.setIfInBounds_toArray, List.set_cons_zero, List.set_cons_succ]
      refine hd_take 7 (o := ⟨some 109, _, _, _, _, _⟩) (.agg cs.toArray) (by kernel_rfl) (by kernel_rfl) (by kernel_rfl) rfl (by rfl) (fun W hSw => by obtain ⟨s1, s2, s3, s4⟩ := hSw; exact run_loadT Try.underlying52 rfl cs (by rw [HT1.out.len]; exact infoTold) _ rfl ⟨M, 0, none⟩ rfl (Tb.cell ⟨by rw [← HCs.out]; exact s3⟩)) (fun _ _ _ h => h) HS.out ?_
      try simp only [Act.put, List.setIfInBounds_toArray, List.set_cons_zero, List.set_cons_succ]
      refine hd_take 8 (o := ⟨some 110, _, _, _, _, _⟩) (.agg cs.toArray) (by kernel_rfl) (by kernel_rfl) (by kernel_rfl) rfl (by rfl) (fun W hSw => by obtain ⟨s1, s2, s3, s4⟩ := hSw; exact run_loadT Try.underlying52 rfl cs (by rw [HT1.out.len]; exact infoTold) _ rfl ⟨N + 1, 0, none⟩ rfl (Tb.cell ⟨s4⟩)) (fun _ _ _ h => h) HS.out ?_
      try simp only [Act.put, List.setIfInBounds_toArray, List.set_cons_zero, List.set_cons_succ]
      refine hd_take 9 (o := ⟨some 111, _, _, _, _, _⟩) (.bool true) (by kernel_rfl) (by kernel_rfl) (by kernel_rfl) rfl (by rfl) (fun W hSw => by exact run_eqlT cs.toArray (HT1.out.se 9994) (by kernel_rfl) _ _ rfl rfl rfl) (fun _ _ _ h => h) HS.out ?_
      try simp only [Act.put, List.setIfInBounds_toArray, List.set_cons_zero, List.set_cons_succ]
      refine hd_take 10 (o := ⟨some 112, _, _, _, _, _⟩) (.bool true) (by kernel_rfl) (by kernel_rfl) (by kernel_rfl) rfl (by rfl) (fun W hSw => by go_simp) (fun _ _ _ h => h) HS.out ?_
      try simp only [Act.put, List.setIfInBounds_toArray, List.set_cons_zero, List.set_cons_succ]
      refine hd_take 11 (o := ⟨some 8, _, _, _, _, _⟩) (.bool true) (by kernel_rfl) (by kernel_rfl) (by kernel_rfl) rfl (by rfl) (fun W hSw => by go_simp) (fun _ _ _ h => h) HS.out ?_
      try simp only [Act.put, List.setIfInBounds_toArray, List.set_cons_zero, List.set_cons_succ]
      refine wpAnyH_done (by kernel_rfl) ?_ _
      go_wp2_with fail
      go_ret
      exact ⟨rfl, F2, VNn.out, HXt.out.trans (ext_below KBv.out)⟩
    · refine hd_take 5 (o := ⟨some 107, _, _, _, _, _⟩) (.bool true) (by kernel_rfl) (by kernel_rfl) (by kernel_rfl) rfl (by rfl) (fun W hSw => by exact run_neqB (bs (lvb rs)).toArray (bs (lvb rs2)).toArray false (fun W => by rw [eq_bs 9998]; exact congrArg (fun b => Result.ok b W) (by simpa using hall)) (by kernel_rfl) _ _ rfl rfl rfl) (fun _ _ _ h => h) HS.out ?_
      try simp only [Act.put, List.setIfInBounds_toArray, List.set_cons_zero, List.set_cons_succ]
      refine hd_take 6 (o := ⟨some 108, _, _, _, _, _⟩) (.bool true) (by kernel_rfl) (by kernel_rfl) (by kernel_rfl) rfl (by rfl) (fun W hSw => by go_simp) (fun _ _ _ h => h) HS.out ?_
      try simp only [Act.put, List.setIfInBounds_toArray, List.set_cons_zero, List.set_cons_succ]
      refine hd_skip 7 (o := ⟨some 109, _, _, _, _, _⟩) (by kernel_rfl) (by kernel_rfl) (by kernel_rfl) rfl (by rfl) (fun _ _ _ h => h) HS.out ?_
      try simp only [Act.put, List.setIfInBounds_toArray, List.set_cons_zero, List.set_cons_succ]
      refine hd_skip 8 (o := ⟨some 110, _, _, _, _, _⟩) (by kernel_rfl) (by kernel_rfl) (by kernel_rfl) rfl (by rfl) (fun _ _ _ h => h) HS.out ?_
      try simp only [Act.put, List.setIfInBounds_toArray, List.set_cons_zero, List.set_cons_succ]
      refine hd_skip 9 (o := ⟨some 111, _, _, _, _, _⟩) (by kernel_rfl) (by kernel_rfl) (by kernel_rfl) rfl (by rfl) (fun _ _ _ h => h) HS.out ?_
      try simp only [Act.put, List.setIfInBounds_toArray, List.set_cons_zero, List.set_cons_succ]
      refine hd_take 10 (o := ⟨some 112, _, _, _, _, _⟩) (.bool true) (by kernel_rfl) (by kernel_rfl) (by kernel_rfl) rfl (by rfl) (fun W hSw => by go_simp) (fun _ _ _ h => h) HS.out ?_
      try simp only [Act.put, List.setIfInBounds_toArray, List.set_cons_zero, List.set_cons_succ]
      refine hd_take 11 (o := ⟨some 8, _, _, _, _, _⟩) (.bool true) (by kernel_rfl) (by kernel_rfl) (by kernel_rfl) rfl (by rfl) (fun W hSw => by go_simp) (fun _ _ _ h => h) HS.out ?_
      try simp only [Act.put, List.setIfInBounds_toArray, List.set_cons_zero, List.set_cons_succ]
      refine wpAnyH_done (by kernel_rfl) ?_ _
      go_wp2_with fail
      go_ret
      exact ⟨rfl, F2, VNn.out, HXt.out.trans (ext_below KBv.out)⟩
end
end Go.Proofs.Ytoddadohmnaolaa
