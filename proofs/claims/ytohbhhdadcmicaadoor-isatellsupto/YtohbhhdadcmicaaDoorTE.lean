import Derived.Test.YtohbhhdadcmicaaDoorTD
namespace Go.Proofs.YtohbhhdadcmicaaDoor
open Go.RowKit
/-- an instruction lies in a block of the call's own -/
structure St (w W : World) (g : Nat) (no na nb : Nat) (z : Int) : Prop where
  c0 : W.cell? ⟨g, 0, none⟩ = some (.int .i64 (no : Int))
  c1 : W.cell? ⟨g, 1, none⟩ = some (.int .i64 (na : Int))
  c2 : W.cell? ⟨g, 2, none⟩ = some (.int .i64 (nb : Int))
  c3 : W.cell? ⟨g, 3, none⟩ = some (.int .i64 z)
  tb : Tb W
  be : Below w.heap.size w W
  le : w.heap.size ≤ g
theorem St.below {w W W' : World} {g no na nb : Nat} {z : Int} (h : St w W g no na nb z) (hb : Below W.heap.size W W') : St w W' g no na nb z := by
  have hl := cell_lt h.c0
  exact ⟨by rw [hb.cell (p := ⟨g, 0, none⟩) hl]; exact h.c0, by rw [hb.cell (p := ⟨g, 1, none⟩) hl]; exact h.c1, by rw [hb.cell (p := ⟨g, 2, none⟩) hl]; exact h.c2, by rw [hb.cell (p := ⟨g, 3, none⟩) hl]; exact h.c3, h.tb.below hb, h.be.trans (hb.mono h.be.size), h.le⟩
theorem St.start {w w1 : World} (no na nb : Nat) (z : Int) (hT : Tb w1) (hb : Below w.heap.size w w1) : St w (w1.alloc (.cells #[.int .i64 (no : Int), .int .i64 (na : Int), .int .i64 (nb : Int), .int .i64 z] 40)) w1.heap.size no na nb z :=
  ⟨by rw [World.cell?_alloc_new]; rfl, by rw [World.cell?_alloc_new]; rfl, by rw [World.cell?_alloc_new]; rfl, by rw [World.cell?_alloc_new]; rfl, hT.below (bel1 _ _), hb.alloc hb.size _, hb.size⟩
section
variable (w : World)
set_option maxRecDepth 100000 in
set_option maxHeartbeats 2000000 in
theorem told_any (n : Nat) (hn : n < 4294967296) (hT : Tb w) : Calls Tryd.prog 12 #[.int .u32 (n : Int)] w fun e w' => e = .returned (.string ⟨(tl n).toArray⟩) ∧ Below w.heap.size w w' := by
  have d2 := rdec_any w n hn
  rcases hx : isI (parts n) with _ | _
  · have HL : Hid (tl n = [46, 119, 111, 114, 100, 32, 48, 120] ++ hx8 n) := hide (by unfold tl; rw [hx]; rfl)
    obtain ⟨e1, e2⟩ := decI_no rfl hx
    rw [e1, e2] at d2
    simp only [I.cells] at d2
    clear e1 e2 hx hT
    go_enter Tryd.func12, Tryd.ntmps12
    go_wp2_with fail
    refine d2.mono ?_
    rintro e w1 ⟨rfl, hb⟩
    have HB := hide hb
    clear hb d2
    go_wp2_with fail
    refine (rhex_any _ n hn).mono ?_
    rintro e w2 ⟨rfl, rfl⟩
    have l8 : (hx8 n).length = 8 := rfl
    generalize hx8 n = hh at *
    go_wp2
    go_ret
    exact ⟨by rw [HL.out, ← app_str]; rfl, HB.out.alloc HB.out.size _⟩
  · obtain ⟨no, na, nb, z, hp, h1, h2, h3, h4, h5, h6⟩ := parts_of hx
    have HL : Hid (tl n = nm no ++ jn [32] (flds ⟨(no : Int), (na : Int), (nb : Int), z⟩)) := hide (by unfold tl; rw [hx, hp]; simp)
    obtain ⟨e1, e2⟩ := decI_yes hp (hp ▸ hx)
    rw [e1, e2] at d2
    simp only [I.cells] at d2
    clear e1 e2 hx hp
    have HT := hide hT
    clear hT
    have HF : Hid (flds ⟨(no : Int), (na : Int), (nb : Int), z⟩ = (if uA no then [114 :: Lib.itoa (na : Int)] else []) ++ (if uB no then [114 :: Lib.itoa (nb : Int)] else []) ++ (if kd no = 0 then [] else [Lib.itoa z])) := hide (by simp [flds])
    go_enter Tryd.func12, Tryd.ntmps12
    go_wp2_with fail
    refine d2.mono ?_
    rintro e w1 ⟨rfl, hb⟩
    have HB := hide hb
    have HT1 := hide (HT.out.below hb)
    have hs1 := hb.size
    clear hb d2
    go_wp2_with fail
    refine (shape_in _ no h2).mono ?_
    rintro e w2 ⟨rfl, rfl⟩
    have hS := St.start no na nb z HT1.out HB.out
    generalize w1.alloc (.cells #[.int .i64 (no : Int), .int .i64 (na : Int), .int .i64 (nb : Int), .int .i64 z] 40) = W at *
    generalize w1.heap.size = g at *
    have hkr : Hid (kr no = 0 ↔ kd no = 0) := hide (kr_zero no)
    have hnm := hS.tb.nms no h2
    have l0 := nm_len no
    have l1 := itoa_len (z := (na : Int)) (by omega) (by omega)
    have l2 := itoa_len (z := (nb : Int)) (by omega) (by omega)
    have l3 := itoa_len h5 h6
    generalize nm no = nn at *
    generalize uA no = ua at *
    generalize uB no = ub at *
    generalize kr no = kk at *
    have hno : (no : Int) < 27 := by omega
    rcases ua with _ | _
    · rcases ub with _ | _
      · by_cases hk : kk = 0
        · have HS := hide hS
          have c0 := hS.c0
          have c1 := hS.c1
          have c2 := hS.c2
          have c3 := hS.c3
          clear hS
          have e0 : Hid (kd no = 0) := hide (hkr.out.1 hk)
          clear hkr
          subst hk
          go_wp2
          go_ret
          refine ⟨congrArg (fun s => Ending.returned (Value.string s)) (ByteArray.ext ?_), HS.out.be⟩
          rw [HL.out, HF.out]
          simp [jn, e0.out]
        · have HS := hide hS
          have c0 := hS.c0
          have c1 := hS.c1
          have c2 := hS.c2
          have c3 := hS.c3
          clear hS
          have e0 : Hid (¬ kd no = 0) := hide (fun e => hk (hkr.out.2 e))
          clear hkr
          have hk2 : ¬ (kk : Int) = 0 := by omega
          clear hk
          go_wp2_with fail
          refine (Tryd.itoa z (by omega) (by omega) _ HS.out.tb.pw).mono ?_
          rintro e W3 ⟨rfl, hb3⟩
          have HS3 := hide (HS.out.below hb3)
          clear hb3 c0 c1 c2 c3 HS
          have HS := HS3
          clear HS3
          have c0 := HS.out.c0
          have c1 := HS.out.c1
          have c2 := HS.out.c2
          have c3 := HS.out.c3
          go_wp2
          go_ret
          refine ⟨congrArg (fun s => Ending.returned (Value.string s)) (ByteArray.ext ?_), HS.out.be⟩
          rw [HL.out, HF.out]
          simp [jn, ByteArray.data_append, e0.out]
      · by_cases hk : kk = 0
        · have HS := hide hS
          have c0 := hS.c0
          have c1 := hS.c1
          have c2 := hS.c2
          have c3 := hS.c3
          clear hS
          have e0 : Hid (kd no = 0) := hide (hkr.out.1 hk)
          clear hkr
          subst hk
          go_wp2_with fail
          refine (Tryd.itoa (nb : Int) (by omega) (by omega) _ HS.out.tb.pw).mono ?_
          rintro e W3 ⟨rfl, hb3⟩
          have HS3 := hide (HS.out.below hb3)
          clear hb3 c0 c1 c2 c3 HS
          have HS := HS3
          clear HS3
          have c0 := HS.out.c0
          have c1 := HS.out.c1
          have c2 := HS.out.c2
          have c3 := HS.out.c3
          go_wp2
          go_ret
          refine ⟨congrArg (fun s => Ending.returned (Value.string s)) (ByteArray.ext ?_), HS.out.be⟩
          rw [HL.out, HF.out]
          simp [jn, ByteArray.data_append, e0.out]
        · have HS := hide hS
          have c0 := hS.c0
          have c1 := hS.c1
          have c2 := hS.c2
          have c3 := hS.c3
          clear hS
          have e0 : Hid (¬ kd no = 0) := hide (fun e => hk (hkr.out.2 e))
          clear hkr
          have hk2 : ¬ (kk : Int) = 0 := by omega
          clear hk
          go_wp2_with fail
          refine (Tryd.itoa (nb : Int) (by omega) (by omega) _ HS.out.tb.pw).mono ?_
          rintro e W3 ⟨rfl, hb3⟩
          have HS3 := hide (HS.out.below hb3)
          clear hb3 c0 c1 c2 c3 HS
          have HS := HS3
          clear HS3
          have c0 := HS.out.c0
          have c1 := HS.out.c1
          have c2 := HS.out.c2
          have c3 := HS.out.c3
          go_wp2_with fail
          refine (Tryd.itoa z (by omega) (by omega) _ HS.out.tb.pw).mono ?_
          rintro e W4 ⟨rfl, hb4⟩
          have HS4 := hide (HS.out.below hb4)
          clear hb4 c0 c1 c2 c3 HS
          have HS := HS4
          clear HS4
          have c0 := HS.out.c0
          have c1 := HS.out.c1
          have c2 := HS.out.c2
          have c3 := HS.out.c3
          go_wp2
          go_ret
          refine ⟨congrArg (fun s => Ending.returned (Value.string s)) (ByteArray.ext ?_), HS.out.be⟩
          rw [HL.out, HF.out]
          simp [jn, ByteArray.data_append, e0.out]
    · rcases ub with _ | _
      · by_cases hk : kk = 0
        · have HS := hide hS
          have c0 := hS.c0
          have c1 := hS.c1
          have c2 := hS.c2
          have c3 := hS.c3
          clear hS
          have e0 : Hid (kd no = 0) := hide (hkr.out.1 hk)
          clear hkr
          subst hk
          go_wp2_with fail
          refine (Tryd.itoa (na : Int) (by omega) (by omega) _ HS.out.tb.pw).mono ?_
          rintro e W3 ⟨rfl, hb3⟩
          have HS3 := hide (HS.out.below hb3)
          clear hb3 c0 c1 c2 c3 HS
          have HS := HS3
          clear HS3
          have c0 := HS.out.c0
          have c1 := HS.out.c1
          have c2 := HS.out.c2
          have c3 := HS.out.c3
          go_wp2
          go_ret
          refine ⟨congrArg (fun s => Ending.returned (Value.string s)) (ByteArray.ext ?_), HS.out.be⟩
          rw [HL.out, HF.out]
          simp [jn, ByteArray.data_append, e0.out]
        · have HS := hide hS
          have c0 := hS.c0
          have c1 := hS.c1
          have c2 := hS.c2
          have c3 := hS.c3
          clear hS
          have e0 : Hid (¬ kd no = 0) := hide (fun e => hk (hkr.out.2 e))
          clear hkr
          have hk2 : ¬ (kk : Int) = 0 := by omega
          clear hk
          go_wp2_with fail
          refine (Tryd.itoa (na : Int) (by omega) (by omega) _ HS.out.tb.pw).mono ?_
          rintro e W3 ⟨rfl, hb3⟩
          have HS3 := hide (HS.out.below hb3)
          clear hb3 c0 c1 c2 c3 HS
          have HS := HS3
          clear HS3
          have c0 := HS.out.c0
          have c1 := HS.out.c1
          have c2 := HS.out.c2
          have c3 := HS.out.c3
          go_wp2_with fail
          refine (Tryd.itoa z (by omega) (by omega) _ HS.out.tb.pw).mono ?_
          rintro e W4 ⟨rfl, hb4⟩
          have HS4 := hide (HS.out.below hb4)
          clear hb4 c0 c1 c2 c3 HS
          have HS := HS4
          clear HS4
          have c0 := HS.out.c0
          have c1 := HS.out.c1
          have c2 := HS.out.c2
          have c3 := HS.out.c3
          go_wp2
          go_ret
          refine ⟨congrArg (fun s => Ending.returned (Value.string s)) (ByteArray.ext ?_), HS.out.be⟩
          rw [HL.out, HF.out]
          simp [jn, ByteArray.data_append, e0.out]
      · by_cases hk : kk = 0
        · have HS := hide hS
          have c0 := hS.c0
          have c1 := hS.c1
          have c2 := hS.c2
          have c3 := hS.c3
          clear hS
          have e0 : Hid (kd no = 0) := hide (hkr.out.1 hk)
          clear hkr
          subst hk
          go_wp2_with fail
          refine (Tryd.itoa (na : Int) (by omega) (by omega) _ HS.out.tb.pw).mono ?_
          rintro e W3 ⟨rfl, hb3⟩
          have HS3 := hide (HS.out.below hb3)
          clear hb3 c0 c1 c2 c3 HS
          have HS := HS3
          clear HS3
          have c0 := HS.out.c0
          have c1 := HS.out.c1
          have c2 := HS.out.c2
          have c3 := HS.out.c3
          go_wp2_with fail
          refine (Tryd.itoa (nb : Int) (by omega) (by omega) _ HS.out.tb.pw).mono ?_
          rintro e W4 ⟨rfl, hb4⟩
          have HS4 := hide (HS.out.below hb4)
          clear hb4 c0 c1 c2 c3 HS
          have HS := HS4
          clear HS4
          have c0 := HS.out.c0
          have c1 := HS.out.c1
          have c2 := HS.out.c2
          have c3 := HS.out.c3
          go_wp2
          go_ret
          refine ⟨congrArg (fun s => Ending.returned (Value.string s)) (ByteArray.ext ?_), HS.out.be⟩
          rw [HL.out, HF.out]
          simp [jn, ByteArray.data_append, e0.out]
        · have HS := hide hS
          have c0 := hS.c0
          have c1 := hS.c1
          have c2 := hS.c2
          have c3 := hS.c3
          clear hS
          have e0 : Hid (¬ kd no = 0) := hide (fun e => hk (hkr.out.2 e))
          clear hkr
          have hk2 : ¬ (kk : Int) = 0 := by omega
          clear hk
          go_wp2_with fail
          refine (Tryd.itoa (na : Int) (by omega) (by omega) _ HS.out.tb.pw).mono ?_
          rintro e W3 ⟨rfl, hb3⟩
          have HS3 := hide (HS.out.below hb3)
          clear hb3 c0 c1 c2 c3 HS
          have HS := HS3
          clear HS3
          have c0 := HS.out.c0
          have c1 := HS.out.c1
          have c2 := HS.out.c2
          have c3 := HS.out.c3
          go_wp2_with fail
          refine (Tryd.itoa (nb : Int) (by omega) (by omega) _ HS.out.tb.pw).mono ?_
          rintro e W4 ⟨rfl, hb4⟩
          have HS4 := hide (HS.out.below hb4)
          clear hb4 c0 c1 c2 c3 HS
          have HS := HS4
          clear HS4
          have c0 := HS.out.c0
          have c1 := HS.out.c1
          have c2 := HS.out.c2
          have c3 := HS.out.c3
          go_wp2_with fail
          refine (Tryd.itoa z (by omega) (by omega) _ HS.out.tb.pw).mono ?_
          rintro e W5 ⟨rfl, hb5⟩
          have HS5 := hide (HS.out.below hb5)
          clear hb5 c0 c1 c2 c3 HS
          have HS := HS5
          clear HS5
          have c0 := HS.out.c0
          have c1 := HS.out.c1
          have c2 := HS.out.c2
          have c3 := HS.out.c3
          go_wp2
          go_ret
          refine ⟨congrArg (fun s => Ending.returned (Value.string s)) (ByteArray.ext ?_), HS.out.be⟩
          rw [HL.out, HF.out]
          simp [jn, ByteArray.data_append, e0.out]
end
end Go.Proofs.YtohbhhdadcmicaaDoor
