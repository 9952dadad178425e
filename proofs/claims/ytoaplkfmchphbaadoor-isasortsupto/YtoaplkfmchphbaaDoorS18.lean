import Derived.Test.YtoaplkfmchphbaaDoorS05
import Derived.Test.YtoaplkfmchphbaaDoorS14
import Derived.Test.YtoaplkfmchphbaaDoorS17
namespace Go.Proofs.YtoaplkfmchphbaaDoor
open Go.RowKit
section
variable (w : World) (R : Nat → Nat) (pc n no na nb : Nat) (z : Int)
set_option maxRecDepth 100000 in
set_option maxHeartbeats 2000000 in
theorem exec_op (hn : n < 4294967296) (hp : parts n = ⟨(no : Int), na, nb, z⟩) (hx : isI ⟨(no : Int), na, nb, z⟩ = true) (hO : Ops w) (hno1 : 1 ≤ no) (hno2 : no < 27) (hR : RgOk R pc) (h8 : no ≠ 8 ∧ no ≠ 9 ∧ no ≠ 19 ∧ no ≠ 20 ∧ no ≠ 25 ∧ no ≠ 26) : Calls Tryd.prog 11 #[.agg (rg R pc).toArray, .int .u32 (n : Nat)] w fun e w' => e = .returned (.tuple #[.agg (rg (put R na (res no (R na) (R nb) (im z))) (tgt no (R na) (im z) (nx pc))).toArray, .agg effz.toArray]) ∧ Below w.heap.size w w' := by
  have H8 := hide h8
  clear h8
  have hi : decI n = ⟨(no : Int), na, nb, z⟩ := (decI_yes hp hx).1
  have he : decE n = 0 := (decI_yes hp hx).2
  have hbO : ∀ w4, Below w.heap.size w w4 → Ops w4 := fun w4 h => hO.below h
  have hI := isn.1 hx
  have ha : (na : Int) < 8 := (fitsB_range hI.a).2
  have hb8 : (nb : Int) < 8 := (fitsB_range hI.b).2
  have hz1 := hI.imm.1
  have hz2 := hI.imm.2
  have HI := hide hI
  clear hO hx hI hp
  have hz0 : (0 : Int) ≤ (na : Int) := by omega
  have hz00 : (0 : Int) ≤ (nb : Int) := by omega
  have hna : na < 8 := by omega
  have hnb : nb < 8 := by omega
  simp only at hz1 hz2
  go_enter Tryd.func11, Tryd.ntmps11
  go_wp2_with fail
  refine (dec_any _ n hn ?_).mono ?_
  · exact hbO _ (((bel2 w _ _).trans ((bel1 _ _).mono (by simp; omega))))
  rw [hi, he]
  rintro e w4 ⟨rfl, hb⟩
  have hB := Bgn.new rfl hb
  clear hb hi he hbO
  simp only [I.cells]
  obtain ⟨N, hN⟩ : ∃ N, w.heap.size = N := ⟨_, rfl⟩
  have hT : Two w w4 N := by subst hN; exact ⟨hB.r1, hB.e, hB.b, hB.b.size⟩
  have hr : Rb w4 N R pc := by subst hN; exact hB.r
  rw [hN]
  clear hB
  have b5 := bel1 w4 (.cells #[.int .i64 (no : Int), .int .i64 (na : Int), .int .i64 (nb : Int), .int .i64 z] 58)
  have hq := heap_alloc_last w4 (.cells #[.int .i64 (no : Int), .int .i64 (na : Int), .int .i64 (nb : Int), .int .i64 z] 58)
  have HT := hide (hT.below b5)
  have HR := hide (hr.below b5)
  obtain ⟨M, hM⟩ : ∃ M, w4.heap.size = M := ⟨_, rfl⟩
  have hNM : N < M := by rw [← hM]; exact hr.lt
  have hMN : M ≠ N + 1 ∧ M ≠ N + 1 + 1 := by
    have h1 := hT.a.lt
    have h2 := (Array.getElem?_eq_some_iff.1 hT.e).1
    omega
  clear hT hr b5
  go_wp2
  generalize w4.alloc (.cells #[.int .i64 (no : Int), .int .i64 (na : Int), .int .i64 (nb : Int), .int .i64 z] 58) = w5 at *
  rw [hM] at hq
  have i0 : w5.cell? ⟨M, 0, none⟩ = some (.int .i64 (no : Int)) := by rw [cell_of_row _ _ _ _ _ _ hq]; rfl
  have i1 : w5.cell? ⟨M, 1, none⟩ = some (.int .i64 (na : Int)) := by rw [cell_of_row _ _ _ _ _ _ hq]; rfl
  have i2 : w5.cell? ⟨M, 2, none⟩ = some (.int .i64 (nb : Int)) := by rw [cell_of_row _ _ _ _ _ _ hq]; rfl
  have i3 : w5.cell? ⟨M, 3, none⟩ = some (.int .i64 z) := by rw [cell_of_row _ _ _ _ _ _ hq]; rfl
  have ra := HR.out.r hna
  have rb := HR.out.r hnb
  have HQ := hide hq
  clear hq hM
  go_quiet (fail)
  have HT6 := hide (HT.out.same (w' := w5.drewN nq) rfl rfl rfl rfl)
  have HR6 : Hid (Rb (w5.drewN nq) N R pc) := hide ⟨HR.out.out⟩
  have i0' : (w5.drewN nq).cell? ⟨M, 0, none⟩ = some (.int .i64 (no : Int)) := by simpa using i0
  have i1' : (w5.drewN nq).cell? ⟨M, 1, none⟩ = some (.int .i64 (na : Int)) := by simpa using i1
  have p8 := HR6.out.p
  have z8 := HR6.out.frz
  clear HT HR i0 i1 i2 i3 ra rb HQ
  generalize w5.drewN nq = w6 at *
  have r1' := HR6.out.r hna
  have hRa := hR.r na hna
  have hRb := hR.r nb hnb
  have ht := target_any w6 (R na) (im z) (nx pc) (im_lt z) (nx_lt pc) no hno2
  rw [im_cast, nx_cast] at ht
  have hres := fun w' => result_any w' (R na) (R nb) (im z) hRa hRb (im_lt z) no hno1 (by have := H8.out; have := HI.out.op2; simp only at this; omega) (by have := H8.out; omega) (by have := H8.out; omega) (by have := H8.out; omega)
  simp only [im_cast] at hres
  have n8 : ¬ (no : Int) = 8 := by have := H8.out; omega
  have n9 : ¬ (no : Int) = 9 := by have := H8.out; omega
  have n19 : ¬ (no : Int) = 19 := by have := H8.out; omega
  have n20 : ¬ (no : Int) = 20 := by have := H8.out; omega
  have n25 : ¬ (no : Int) = 25 := by have := H8.out; omega
  have n26 : ¬ (no : Int) = 26 := by have := H8.out; omega
  go_upto_region 19 with (go_at_call 28; refine ht.mono ?_; rintro e w6 ⟨rfl, rfl⟩)
  clear ht
  have HT7 := hide (HT6.out.setCell 8 (.int .u32 ((tgt no (R na) (im z) (nx pc)) : Nat)))
  have HR7 := hide (HR6.out.setpc (tgt no (R na) (im z) (nx pc)))
  have j0 : (w6.setCell ⟨N, 8, none⟩ (.int .u32 ((tgt no (R na) (im z) (nx pc)) : Nat))).cell? ⟨M, 0, none⟩ = some (.int .i64 (no : Int)) := by rw [World.cell?_setCell_far _ _ _ _ (by show N ≠ M; omega)]; exact i0'
  have j1 : (w6.setCell ⟨N, 8, none⟩ (.int .u32 ((tgt no (R na) (im z) (nx pc)) : Nat))).cell? ⟨M, 1, none⟩ = some (.int .i64 (na : Int)) := by rw [World.cell?_setCell_far _ _ _ _ (by show N ≠ M; omega)]; exact i1'
  clear HT6 HR6 p8 z8 i0' i1' r1'
  generalize w6.setCell ⟨N, 8, none⟩ (.int .u32 ((tgt no (R na) (im z) (nx pc)) : Nat)) = w7 at *
  have q1 := HR7.out.r hna
  have q2 := HR7.out.frz na
  go_upto_region 21 with fail
  have k0 : (w7.setCell ⟨N, na, none⟩ (.int .u32 ((res no (R na) (R nb) (im z)) : Nat))).drew.cell? ⟨M, 0, none⟩ = some (.int .i64 (no : Int)) := by show (w7.setCell ⟨N, na, none⟩ (.int .u32 ((res no (R na) (R nb) (im z)) : Nat))).cell? ⟨M, 0, none⟩ = _; rw [World.cell?_setCell_far _ _ _ _ (by show N ≠ M; omega)]; exact j0
  have k1 : (w7.setCell ⟨N, na, none⟩ (.int .u32 ((res no (R na) (R nb) (im z)) : Nat))).drew.cell? ⟨M, 1, none⟩ = some (.int .i64 (na : Int)) := by show (w7.setCell ⟨N, na, none⟩ (.int .u32 ((res no (R na) (R nb) (im z)) : Nat))).cell? ⟨M, 1, none⟩ = _; rw [World.cell?_setCell_far _ _ _ _ (by show N ≠ M; omega)]; exact j1
  go_region_held (fun W => W.cell? ⟨M, 0, none⟩ = some (.int .i64 (no : Int)) ∧ W.cell? ⟨M, 1, none⟩ = some (.int .i64 (na : Int)))
    (first | exact ⟨j0, j1⟩ | exact ⟨k0, k1⟩)
    (first | (go_at_call 29; refine (hres _).mono ?_; rintro e w' ⟨rfl, rfl⟩))
  rename_i hHeld
  have HT8 : Hid (Two w (w7.setCell ⟨N, na, none⟩ (.int .u32 ((res no (R na) (R nb) (im z)) : Nat))).drew N) := hide (HT7.out.setCell na (.int .u32 ((res no (R na) (R nb) (im z)) : Nat))).drew
  have HR8 : Hid (Rb (w7.setCell ⟨N, na, none⟩ (.int .u32 ((res no (R na) (R nb) (im z)) : Nat))).drew N (put R na (res no (R na) (R nb) (im z))) (tgt no (R na) (im z) (nx pc))) := hide ⟨(HR7.out.put hna (res no (R na) (R nb) (im z))).out⟩
  clear hHeld HT7 HR7 q1 q2 j0 j1 k0 k1 hres
  generalize (w7.setCell ⟨N, na, none⟩ (.int .u32 ((res no (R na) (R nb) (im z)) : Nat))).drew = w8 at *
  obtain ⟨f0, f1, f2, f3, f4, f5⟩ := effcells HT8.out (rg (put R na (res no (R na) (R nb) (im z))) (tgt no (R na) (im z) (nx pc)))
  have HF := hide (HT8.out.rows (rg (put R na (res no (R na) (R nb) (im z))) (tgt no (R na) (im z) (nx pc))) ([.int .i64 0, .int .u32 0, .int .i64 0, .int .u32 0, .int .i64 0] : List Value) rfl)
  go_wp2_with (first
    | refine wpList_load_row rfl 32 _ rfl N rfl 32 (rg (put R na (res no (R na) (R nb) (im z))) (tgt no (R na) (im z) (nx pc))).toArray (0, 0) _ HR8.out.out Tryd.underlying32 rfl (info_rg _ _) ?_
    | refine wpList_store_row rfl 32 _ _ rfl (N + 1) (rg (put R na (res no (R na) (R nb) (im z))) (tgt no (R na) (im z) (nx pc))).toArray rfl rfl 32 _ HT8.out.a.out (info_rg _ _) (by rw [rg_size, rg_size]) (rg_one _ _) ?_)
  refine bodyPost_ret (results_rows2 rfl _ _ (N + 1) (N + 1 + 1) 32 34 _ _ _ _ rfl HF.out.a Tryd.underlying32 rfl (info_rg _ _) rfl HF.out.e Tryd.underlying34 rfl info_eff) rfl ?_
  subst hN
  exact ⟨rfl, HF.out.b⟩
end
end Go.Proofs.YtoaplkfmchphbaaDoor

namespace Go.Proofs.YtoaplkfmchphbaaDoor
open Go.RowKit
theorem rg_nine (R : Nat → Nat) (pc : Nat) : (rg R pc).toArray = #[.int .u32 (R 0 : Nat), .int .u32 (R 1 : Nat), .int .u32 (R 2 : Nat), .int .u32 (R 3 : Nat), .int .u32 (R 4 : Nat), .int .u32 (R 5 : Nat), .int .u32 (R 6 : Nat), .int .u32 (R 7 : Nat), .int .u32 (pc : Nat)] := rfl
theorem sz1 {W w1 : World} {o : Obj} (hb : Below (W.alloc o).heap.size (W.alloc o) w1) : W.heap.size < w1.heap.size := by have := hb.size; simp at this; omega
section
variable (w : World)
theorem parts_known : parts 36700165 = ⟨((2 : Nat) : Int), (3 : Nat), (0 : Nat), 5⟩ := rfl
theorem isI_known : isI ⟨((2 : Nat) : Int), (3 : Nat), (0 : Nat), 5⟩ = true := by decide
theorem exec_known (hO : Ops w) : Calls Tryd.prog 11 #[.agg #[.int .u32 0, .int .u32 0, .int .u32 0, .int .u32 0, .int .u32 0, .int .u32 0, .int .u32 0, .int .u32 0, .int .u32 7], .int .u32 36700165] w fun e w' => e = .returned (.tuple #[.agg #[.int .u32 0, .int .u32 0, .int .u32 0, .int .u32 5, .int .u32 0, .int .u32 0, .int .u32 0, .int .u32 0, .int .u32 8], .agg #[.int .i64 0, .int .u32 0, .int .i64 0, .int .u32 0, .int .i64 0]]) ∧ Below w.heap.size w w' :=
  exec_op w (fun _ => 0) 7 36700165 2 3 0 5 (by decide) parts_known isI_known hO (by decide) (by decide) ⟨fun _ _ => by decide, by decide⟩ ⟨by decide, by decide, by decide, by decide, by decide, by decide⟩
theorem dec_known (hO : Ops w) : Calls Tryd.prog 26 #[.int .u32 36700165] w fun e w' => e = .returned (.tuple #[.agg #[.int .i64 2, .int .i64 3, .int .i64 0, .int .i64 5], .int .i64 0]) ∧ Below w.heap.size w w' := by
  have h := dec_any w 36700165 (by decide) hO
  rw [(decI_yes parts_known isI_known).1, (decI_yes parts_known isI_known).2] at h
  exact h
theorem enc_known (hO : Ops w) : Calls Tryd.prog 30 #[.agg #[.int .i64 2, .int .i64 3, .int .i64 0, .int .i64 5]] w fun e w' => e = .returned (.tuple #[.int .u32 36700165, .int .i64 0]) ∧ Below w.heap.size w w' :=
  enc_yes w ⟨((2 : Nat) : Int), (3 : Nat), (0 : Nat), 5⟩ isI_known hO
set_option maxRecDepth 100000 in
set_option maxHeartbeats 2000000 in
theorem known_any (hO : Ops w) : Calls Tryd.prog 12 #[] w fun e w' => e = .returned (.bool true) ∧ Below w.heap.size w w' := by
  have HO := hide hO
  clear hO
  go_enter Tryd.func12, Tryd.ntmps12
  go_wp2_with fail
  refine (dec_known _ HO.out).mono ?_
  rintro e w1 ⟨rfl, hb⟩
  have HB1 := hide hb
  have HO1 := hide ((HO.out.below hb).below (bel1 w1 (.cells #[.int .i64 2, .int .i64 3, .int .i64 0, .int .i64 5] 58)))
  clear hb HO
  go_wp2_with fail
  refine (enc_known _ HO1.out).mono ?_
  rintro e w2 ⟨rfl, hb⟩
  have HB2 := hide (HB1.out.trans (((bel1 w1 (.cells #[.int .i64 2, .int .i64 3, .int .i64 0, .int .i64 5] 58)).trans (hb.mono (by simp))).mono HB1.out.size))
  have HO2 := hide (HO1.out.below hb)
  clear hb HO1 HB1
  go_wp2_with fail
  refine (exec_known _ HO2.out).mono ?_
  rintro e w3 ⟨rfl, hb⟩
  have HB3 := hide (HB2.out.trans (hb.mono HB2.out.size))
  clear hb HO2 HB2
  go_wp2
  go_ret
  exact ⟨rfl, (HB3.out.alloc HB3.out.size _).alloc (by have := HB3.out.size; simp; omega) _⟩
end
end Go.Proofs.YtoaplkfmchphbaaDoor

namespace Go.Proofs.YtoaplkfmchphbaaDoor
open Go.RowKit
theorem Wd.of {W : World} {base : Nat} {v : Value} {ns : List Nat} (h : W.ownsRow base 29 1 v ns.length (wds ns)) : ∃ ao c, v = .slice ao ns.length c ∧ Wd W ao ns := by
  rcases h.2 with ⟨h1, h2⟩ | ⟨g, cap, cur, h1, _, h3, _, _, _, h7⟩
  · exact ⟨none, 0, by rw [h1, h2], fun j hj => by omega⟩
  · refine ⟨_, _, h1, fun j hj => ⟨⟨g, 0, none⟩, rfl, ?_⟩⟩
    rw [add0, Lib.cell_of_heap h3]
    have e : (wds ns)[j]? = some (.int .u32 (ns[j] : Nat)) := by simp [wds, hj]
    rw [← h7, List.getElem?_take] at e
    split at e
    · rw [← Array.getElem?_toList]; exact e
    · simp at e
section
variable (w : World)
/-- what is told, made into words -/
theorem asm_back (ns : List Nat) (hn : ∀ x ∈ ns, x < 4294967296) (hl : ns.length ≤ 512) (hO : Ops w) : Calls Tryd.prog 10 #[.string ⟨(tls ns).toArray⟩] w fun e w' => ∃ v, e = .returned (.tuple #[v, .int .i64 0, .int .i64 0]) ∧ w'.ownsRow w.heap.size 29 1 v ns.length (wds ns) ∧ Below w.heap.size w w' := by
  have h1 := tls_len2 ns
  refine (asm_any w (tls ns) (by omega) hO).mono ?_
  rw [asm_told hn hl]
  exact fun e w' h => h
set_option maxRecDepth 100000 in
set_option maxHeartbeats 1000000 in
theorem round_walk (ao : Option Addr) (cap : Nat) (ns : List Nat) (hn : ∀ x ∈ ns, x < 4294967296) (hl : ns.length ≤ 1048576) (hW : Wd w ao ns) (ha : ao = none → ns.length = 0 ∧ cap = 0) (hT : Tb w) : Calls Tryd.prog 7 #[.slice ao ns.length cap] w fun e w' => e = .returned (.bool true) ∧ Below w.heap.size w w' := by
  have HN := hide hn
  have HW := hide hW
  have HT := hide hT
  clear hn hW hT
  have hlen := tls_len2 ns
  go_enter Tryd.func7, Tryd.ntmps7
  go_wp2_with fail
  refine (known_any _ HT.out.ops).mono ?_
  rintro e w1 ⟨rfl, hb⟩
  have HB1 := hide hb
  clear hb
  go_wp2_with fail
  refine (words_any _ ao cap ns hl (HW.out.below HB1.out) ha).mono ?_
  rintro e w2 ⟨bo, cb, rfl, hW1, hb1⟩
  have HB2 := hide (HB1.out.trans (hb1.mono HB1.out.size))
  have HW1 := hide hW1
  clear hb1 hW1 HB1
  go_wp2_with fail
  refine (dis_any _ bo cb ns HN.out hl HW1.out (HT.out.below HB2.out)).mono ?_
  rintro e w3 ⟨rfl, hb3⟩
  have HB3 := hide (HB2.out.trans (hb3.mono HB2.out.size))
  clear hb3 HB2 HW1
  by_cases h5 : ns.length ≤ 512
  · have HA := hide (fun W h => asm_back W ns HN.out h5 h)
    generalize tls ns = T at *
    have h5I : (ns.length : Int) ≤ 512 := by omega
    go_wp2_with fail
    refine (HA.out _ (HT.out.below HB3.out).ops).mono ?_
    rintro e w4 ⟨v, rfl, hO4, hb4⟩
    obtain ⟨mo, cm, rfl, hW4⟩ := Wd.of hO4
    have HB4 := hide (HB3.out.trans (hb4.mono HB3.out.size))
    have HW4 := hide hW4
    clear hb4 hW4 hO4 HB3 HA
    go_wp2_with fail
    refine (same_any _ mo ao cm cap ns hl HW4.out (HW.out.below HB4.out)).mono ?_
    rintro e w5 ⟨rfl, hb5⟩
    have HB5 := hide (HB4.out.trans (hb5.mono HB4.out.size))
    clear hb5 HB4
    go_wp2
    go_ret
    exact ⟨rfl, HB5.out⟩
  · have h5I : ¬ (ns.length : Int) ≤ 512 := by omega
    have HA := hide (fun W h => asm_any W (tls ns) (by omega) h)
    by_cases hs : 16384 < (tls ns).length
    · have hsI : (16384 : Int) < ((tls ns).length : Int) := by omega
      generalize tls ns = T at *
      go_wp2_with fail
      refine (HA.out _ (HT.out.below HB3.out).ops).mono ?_
      rintro e w4 ⟨v, rfl, hO4, hb4⟩
      obtain ⟨mo, cm, rfl, hW4⟩ := Wd.of hO4
      have HB4 := hide (HB3.out.trans (hb4.mono HB3.out.size))
      clear hb4 hW4 hO4 HB3 HA
      generalize asmT T = X at *
      go_wp2
      go_ret
      exact ⟨rfl, HB4.out⟩
    · have hsI : ¬ (16384 : Int) < ((tls ns).length : Int) := by omega
      have HV := hide (asm_over HN.out (by omega) (by omega))
      generalize tls ns = T at *
      go_wp2_with fail
      refine (HA.out _ (HT.out.below HB3.out).ops).mono ?_
      rw [HV.out]
      rintro e w4 ⟨v, rfl, hO4, hb4⟩
      obtain ⟨mo, cm, rfl, hW4⟩ := Wd.of hO4
      have HB4 := hide (HB3.out.trans (hb4.mono HB3.out.size))
      clear hb4 hW4 hO4 HB3 HA
      go_wp2
      go_ret
      exact ⟨rfl, HB4.out⟩
end
end Go.Proofs.YtoaplkfmchphbaaDoor
