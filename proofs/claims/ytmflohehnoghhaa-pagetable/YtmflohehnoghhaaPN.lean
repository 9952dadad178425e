import Derived.Test.YtmflohehnoghhaaPM
namespace Go.Proofs.Ytmflohehnoghhaa
open Go.RowKit

theorem infoOp : (Try.prog.info? 34).map (·.size) = some 7 := by kernel_rfl
theorem good_below {X : Asn} (hX : Good X) {w w' : World} {F : Nat → Prop} (h : X w F) (hb : Below w.heap.size w w') : X w' F := hX.keep h hb.size (fun b hb' => hb.block b (hX.lt h b hb'))
theorem cellsT_none {k : Nat} {b r : Nat → Nat} (hk : k < 3) : (cellsT k b r)[k * 2]? = some (.pointer none) ∧ (cellsT k b r)[k * 2 + 1]? = some (.pointer none) := by
  match k, hk with
  | 0, _ => exact ⟨rfl, rfl⟩
  | 1, _ => exact ⟨rfl, rfl⟩
  | 2, _ => exact ⟨rfl, rfl⟩
theorem TriAt.apart {w wr : World} {A k : Nat} {b r : Nat → Nat} {Hs : Nat → Nat → Prop} (h : TriAt w wr A k b r Hs) {i j : Nat} (hi : i < k) (hj : j < k) {Fi Fj : Nat → Prop} (hei : ∀ x, Hs i x ↔ x = b i ∨ Fi x) (hej : ∀ x, Hs j x ↔ x = b j ∨ Fj x) (hnj : ¬ Fj (b j)) : ¬ Fj (b i) := by
  by_cases e : i = j
  · subst e; exact hnj
  · exact fun hf => h.dis i j hi hj e (b i) ((hei _).2 (.inl rfl)) ((hej _).2 (.inr hf))
/-- Load of what was told, with what it answers -/
theorem lay_both {w : World} {B : Nat} {m : Nat → E} {f : FuncId} {args : Array Value} {Z : Nat → Mp} {len : Nat} (h : Calls Try.prog f args w fun e w' => (∃ c, lay Z len = .error c ∧ e = .returned (.int .i64 c) ∧ Below w.heap.size w w') ∨ (∃ m', lay Z len = .ok m' ∧ e = .returned (.int .i64 0) ∧ TGo w w' B m')) (hT : Tb w B m) :
    Calls Try.prog f args w fun e w' => ∃ c m2, e = .returned (.int .i64 c) ∧ Tb w' B m2 ∧ Mod (fun x => x = B) w w' ∧ ((lay Z len = .error c ∧ m2 = m) ∨ (lay Z len = .ok m2 ∧ c = 0)) := by
  refine h.mono ?_
  rintro e w' (⟨c, h1, rfl, h2⟩ | ⟨m', h1, rfl, h2⟩)
  · exact ⟨c, m, rfl, hT.below h2, Mod.of_below h2, .inl ⟨h1, rfl⟩⟩
  · exact ⟨0, m', rfl, h2.1, h2.2, .inr ⟨h1, rfl⟩⟩
theorem layR_both {w : World} {R : Nat} {L : List Mp} {F : Nat → Prop} {m m2 : Nat → E} {c : Int} {f : FuncId} {args : Array Value} {Z : Nat → Mp} {len : Nat} (hc : (lay Z len = .error c ∧ m2 = m) ∨ (lay Z len = .ok m2 ∧ c = 0)) (hA : Ag m L) (hR : RtA R L w F)
    (h : Calls Try.prog f args w fun e w' => (∃ c, lay Z len = .error c ∧ e = .returned (.int .i64 c) ∧ Below w.heap.size w w') ∨ (∃ m' K F', lay Z len = .ok m' ∧ e = .returned (.int .i64 0) ∧ Ag m' K ∧ RtA R K w' F' ∧ Ext F w F' w')) :
    Calls Try.prog f args w fun e w' => e = .returned (.int .i64 c) ∧ ∃ K F', Ag m2 K ∧ RtA R K w' F' ∧ Ext F w F' w' := by
  refine h.mono ?_
  rintro e w' (⟨c', h1, rfl, h2⟩ | ⟨m', K, F', h1, rfl, h2, h3, h4⟩)
  · rcases hc with ⟨h5, rfl⟩ | ⟨h5, _⟩
    · rw [h5] at h1; cases h1
      exact ⟨rfl, L, F, hA, good_below (good_rt _ _) hR h2, Ext.of_below h2⟩
    · rw [h5] at h1; cases h1
  · rcases hc with ⟨h5, _⟩ | ⟨h5, rfl⟩
    · rw [h5] at h1; cases h1
    · rw [h5] at h1; cases h1
      exact ⟨rfl, K, F', h2, h3, h4⟩
set_option maxRecDepth 100000 in
set_option maxHeartbeats 16000000 in
theorem pageTable_walk (a : Option Addr) (len cap : Nat) (O : Nat → Ost) (w : World) (_hl : len ≤ maxLen) (hO : IsOps w a len O) (hB : ∀ k, k < len → (O k).ll * 24 ≤ 140737488351232) :
    Calls Try.prog 3 #[.slice a len cap] w fun e w' => e = .returned (.bool true) ∧ Below w.heap.size w w' := by
  have hml : (len : Int) ≤ 9223372036854775807 := by unfold maxLen at _hl; omega
  have HO := hide hO
  have HBk := hide hB
  clear hO hB
  go_enter Try.func3, Try.ntmps3
  go_wp2_with fail
  refine (fixed_any w).mono ?_
  rintro e w1 ⟨rfl, hb1⟩
  have H0 : Hid (Tri w (w1.alloc (.cells #[.pointer none, .pointer none, .pointer none, .pointer none, .pointer none, .pointer none] 28)) w1.heap.size 0 (fun _ => 0) (fun _ => 0)) := hide ⟨fun _ _ => False, heap_alloc_new _ _, fun i hi => by omega, fun i j hi => by omega, fun i hi => by omega, fun i hi => by omega, hb1.size, hb1.alloc hb1.size _⟩
  clear hb1
  go_upto_region 5 with fail
  generalize w1.alloc (.cells #[.pointer none, .pointer none, .pointer none, .pointer none, .pointer none, .pointer none] 28) = w2 at *
  generalize w1.heap.size = A at *
  go_wp2_with fail
  go_loopw [5] (fun x wr => ∃ (k : Nat) (b r : Nat → Nat), k ≤ 3 ∧ x = .int .i64 (k : Int) ∧ Hid (Tri w wr A k b r)) (fun x _ => 3 - (intOf x).toNat)
  case atStart => exact ⟨0, _, _, by omega, rfl, H0⟩
  case round =>
  clear H0
  obtain ⟨k, b, r, hk, rfl, K1⟩ := hrel
  by_cases hlt : k < 3
  · as_aux_lemma =>
      have hd : decide ((k : Int) < 3) = true := by simp; omega
      have hki : (k : Int) < 3 := by omega
      obtain ⟨Hs, hT⟩ := K1.out
      have HT := hide hT
      clear hT K1
      go_wp2_with fail
      refine (new_any wr).mono ?_
      rintro e w5 ⟨rfl, hn1, hb5⟩
      go_wp2_with fail
      refine (newR_any w5).mono ?_
      rintro e w6 ⟨rfl, hn2, hb6⟩
      obtain ⟨hPn, hln⟩ := pr_new hn1 (Nat.le_refl _) hb5 hn2 rfl hb6
      have hb7 := hb5.trans (hb6.mono hb5.size)
      have h7 := HT.out.below hb7
      obtain ⟨n0, n1⟩ := cellsT_none (b := b) (r := r) hlt
      have z0 : w6.cell? ⟨A, k * 2, none⟩ = some (.pointer none) := by rw [cell_of_row _ _ _ _ _ _ h7.arr]; simpa using n0
      have z1 : w6.cell? ⟨A, k * 2 + 1, none⟩ = some (.pointer none) := by rw [cell_of_row _ _ _ _ _ _ h7.arr]; simpa using n1
      have f0 := frozen_of_row _ _ (k * 2) _ _ h7.arr
      have f1 := frozen_of_row _ _ (k * 2 + 1) _ _ h7.arr
      have HT5 := hide (HT.out.put hlt (Nat.lt_succ_self k) (fun j hj hne => by omega) (by omega) hb7 hPn hln)
      clear hn1 hn2 hb5 hb6 hPn hln hb7 h7 n0 n1
      go_upto_region 9 with fail
      generalize wr.heap.size = B8 at *
      generalize w5.heap.size = R8 at *
      generalize (w6.setCell ⟨A, k * 2, none⟩ (bp B8)).setCell ⟨A, k * 2 + 1, none⟩ (rp' R8) = w7 at *
      obtain ⟨Hs2, hT2⟩ := HT5.out
      obtain ⟨c0, c1⟩ := hT2.cells hlt (Nat.lt_succ_self k)
      clear hT2 z0 z1 f0 f1
      go_wp2
      go_roundw
      case rel =>
        first
          | exact ⟨k + 1, _, _, by omega, by go_num, HT5⟩
          | ((repeat apply Exists.intro); refine ⟨?_, rfl⟩; exact ⟨k + 1, _, _, by omega, by go_num, HT5⟩)
      case measure => simp [intOf]; omega
  have hd0 : decide ((k : Int) < 3) = false := by simp; omega
  obtain rfl : k = 3 := by omega
  clear hlt hk
  go_wp2_with fail
  go_loopw [6] (fun x wr => ∃ (k : Nat) (b r : Nat → Nat), k ≤ len ∧ x = .int .i64 (k : Int) ∧ Hid (Tri w wr A 3 b r)) (fun x _ => len - (intOf x).toNat)
  case atStart => exact ⟨0, _, _, by omega, rfl, K1⟩
  case round =>
  clear K1
  obtain ⟨k, b, r, hk, rfl, K1⟩ := hrel
  by_cases hlt : k < len
  · as_aux_lemma =>
      have hd : decide (k < len) = true := by simp; omega
      have hki : (k : Int) < (len : Int) := by omega
      obtain ⟨x, hx, ho⟩ := (HO.out.below K1.out.bel) k hlt
      subst hx
      have hbo := HBk.out k hlt
      generalize O k = o at *
      have hc : ∀ (j : Nat) (v : Value), [.int .i64 o.kd, .int .i64 o.t, .int .i64 o.v, .int .i64 o.s, .bool o.b, .int .u32 (o.ad : Nat), .slice o.la o.ll o.lc][j]? = some v → wr.cell? ((x.add (k * 7)).add j) = some v := ho.c
      obtain ⟨Hs, hT⟩ := K1.out
      have hb1 : Below wr.heap.size wr (wr.alloc (.cells #[.int .i64 o.kd, .int .i64 o.t, .int .i64 o.v, .int .i64 o.s, .bool o.b, .int .u32 (o.ad : Nat), .slice o.la o.ll o.lc] 34)) := (Below.refl _ _).alloc (Nat.le_refl _) _
      have hM := heap_alloc_new wr (.cells #[.int .i64 o.kd, .int .i64 o.t, .int .i64 o.v, .int .i64 o.s, .bool o.b, .int .u32 (o.ad : Nat), .slice o.la o.ll o.lc] 34)
      have HC := hide hc
      have hT2 := hT.below hb1
      have HM2 := hide hM
      have HZ2 := hide (ho.z.below hb1)
      have HLo := hide hbo
      have HMo := hide ho.l
      have HAo := hide ho.a
      have HT2 := hide hT2
      clear ho hT hb1 hM hc hT2 K1 hbo
      go_upto_region 15 with (refine load_st 34 _ Try.underlying34 rfl [.int .i64 o.kd, .int .i64 o.t, .int .i64 o.v, .int .i64 o.s, .bool o.b, .int .u32 (o.ad : Nat), .slice o.la o.ll o.lc] infoOp rfl _ rfl (x.add (k * 7)) rfl HC.out ?_)
      generalize wr.alloc (.cells #[.int .i64 o.kd, .int .i64 o.t, .int .i64 o.v, .int .i64 o.s, .bool o.b, .int .u32 (o.ad : Nat), .slice o.la o.ll o.lc] 34) = w2 at *
      generalize wr.heap.size = M at *
      have m1 : w2.cell? ⟨M, 1, none⟩ = some (.int .i64 o.t) := by rw [cell_of_row _ _ _ _ _ _ HM2.out]; rfl
      clear HC
      go_wp2_with fail
      refine (rest_any w2 o.t).mono ?_
      rintro e w9 ⟨i, hi3, rfl, hw9⟩
      rw [hw9]
      clear hw9 w9 m1
      have hi3i : (i : Int) < 3 := by omega
      obtain ⟨z0, z1⟩ := HT2.out.cells hi3 hi3
      have hb3 := (Below.refl w2.heap.size w2).alloc (Nat.le_refl _) (.cells #[bp (b i), rp' (r i)] 27)
      have hNp := heap_alloc_new w2 (.cells #[bp (b i), rp' (r i)] 27)
      have HT3 := hide (HT2.out.below hb3)
      have HM3 := hide ((hb3.block M (Array.getElem?_eq_some_iff.1 HM2.out).1).trans HM2.out)
      have HZ3 := hide (HZ2.out.below hb3)
      have hNpH : ∀ l, l < 3 → ¬ Hs l w2.heap.size := fun l hl e => by have := (good_pr _ _).lt (HT2.out.prs l hl) _ e; omega
      clear hb3
      go_upto_region 16 with fail
      clear z0 z1
      generalize w2.alloc (.cells #[bp (b i), rp' (r i)] 27) = w3 at *
      generalize w2.heap.size = Np at *
      have m2 : w3.cell? ⟨M, 2, none⟩ = some (.int .i64 o.v) := by rw [cell_of_row _ _ _ _ _ _ HM3.out]; rfl
      go_wp2_with fail
      refine (rest_any w3 o.v).mono ?_
      rintro e w9 ⟨j, hj3, rfl, hw9⟩
      rw [hw9]
      clear hw9 w9 m2
      have hj3i : (j : Int) < 3 := by omega
      obtain ⟨z0, z1⟩ := HT3.out.cells hj3 hj3
      have hb4 := (Below.refl w3.heap.size w3).alloc (Nat.le_refl _) (.cells #[bp (b j), rp' (r j)] 27)
      have hNq := heap_alloc_new w3 (.cells #[bp (b j), rp' (r j)] 27)
      have hNp4 := (hb4.block Np (Array.getElem?_eq_some_iff.1 hNp).1).trans hNp
      have HT := hide (HT3.out.below hb4)
      have HM := hide ((hb4.block M (Array.getElem?_eq_some_iff.1 HM3.out).1).trans HM3.out)
      have HZo := hide (HZ3.out.below hb4)
      have hNqH : ∀ l, l < 3 → ¬ Hs l w3.heap.size := fun l hl e => by have := (good_pr _ _).lt (HT3.out.prs l hl) _ e; omega
      clear hb4 hNp HT2 HT3 HM2 HM3 HZ2 HZ3
      go_upto_region 17 with fail
      clear z0 z1
      generalize w3.alloc (.cells #[bp (b j), rp' (r j)] 27) = w4 at *
      generalize w3.heap.size = Nq at *
      have HNQ : Hid ((∀ l, l < 3 → ¬ Hs l Np) ∧ ∀ l, l < 3 → ¬ Hs l Nq) := hide ⟨hNpH, hNqH⟩
      have HNp1 := hide hNp4
      have HNq1 := hide hNq
      have p0 : w4.cell? ⟨Np, 0, none⟩ = some (bp (b i)) := by rw [cell_of_row _ _ _ _ _ _ hNp4]; rfl
      have p1 : w4.cell? ⟨Np, 1, none⟩ = some (rp' (r i)) := by rw [cell_of_row _ _ _ _ _ _ hNp4]; rfl
      have q0 : w4.cell? ⟨Nq, 0, none⟩ = some (bp (b j)) := by rw [cell_of_row _ _ _ _ _ _ hNq]; rfl
      have q1 : w4.cell? ⟨Nq, 1, none⟩ = some (rp' (r j)) := by rw [cell_of_row _ _ _ _ _ _ hNq]; rfl
      have m0 : w4.cell? ⟨M, 0, none⟩ = some (.int .i64 o.kd) := by rw [cell_of_row _ _ _ _ _ _ HM.out]; rfl
      have HMc : Hid (w4.cell? ⟨M, 1, none⟩ = some (.int .i64 o.t) ∧ w4.cell? ⟨M, 2, none⟩ = some (.int .i64 o.v) ∧ w4.cell? ⟨M, 3, none⟩ = some (.int .i64 o.s) ∧ w4.cell? ⟨M, 4, none⟩ = some (.bool o.b) ∧ w4.cell? ⟨M, 5, none⟩ = some (.int .u32 (o.ad : Nat)) ∧ w4.cell? ⟨M, 6, none⟩ = some (.slice o.la o.ll o.lc)) := hide ⟨by rw [cell_of_row _ _ _ _ _ _ HM.out]; rfl, by rw [cell_of_row _ _ _ _ _ _ HM.out]; rfl, by rw [cell_of_row _ _ _ _ _ _ HM.out]; rfl, by rw [cell_of_row _ _ _ _ _ _ HM.out]; rfl, by rw [cell_of_row _ _ _ _ _ _ HM.out]; rfl, by rw [cell_of_row _ _ _ _ _ _ HM.out]; rfl⟩
      clear hNp4 hNq hNpH hNqH
      by_cases k1 : o.kd = 1
      · have t1 : (o.kd == 1) = true := by simp [k1]
        clear k1
        obtain ⟨m1, m2, m3, m4, m5, m6⟩ := HMc.out
        go_wp2_with fail
        refine (show Calls Try.prog 8 #[.agg #[bp (b i), rp' (r i)], .agg #[.int .i64 o.kd, .int .i64 o.t, .int .i64 o.v, .int .i64 o.s, .bool o.b, .int .u32 (o.ad : Nat), .slice o.la o.ll o.lc]] w4 _ from changes_any (HT.out.prs i hi3) o HZo.out HLo.out HMo.out).mono ?_
        rintro e w5 ⟨rfl, H', hP', hE'⟩
        have HT5 := hide (HT.out.turn hi3 hP' hE')
        clear hP' hE' p0 p1 q0 q1 m0 m1 m2 m3 m4 m5 m6
        go_wp2
        go_roundw
        case rel =>
          first
            | exact ⟨k + 1, b, r, by omega, by go_num, HT5⟩
            | ((repeat apply Exists.intro); refine ⟨?_, rfl⟩; exact ⟨k + 1, b, r, by omega, by go_num, HT5⟩)
        case measure => simp [intOf]; omega
      have b1 : (o.kd == 1) = false := by simp [k1]
      clear k1
      by_cases k2 : o.kd = 2
      · have t2 : (o.kd == 2) = true := by simp [k2]
        clear k2
        obtain ⟨m1, m2, m3, m4, m5, m6⟩ := HMc.out
        go_wp2_with fail
        refine (show Calls Try.prog 8 #[.agg #[bp (b i), rp' (r i)], .agg #[.int .i64 o.kd, .int .i64 o.t, .int .i64 o.v, .int .i64 o.s, .bool o.b, .int .u32 (o.ad : Nat), .slice o.la o.ll o.lc]] w4 _ from changes_any (HT.out.prs i hi3) o HZo.out HLo.out HMo.out).mono ?_
        rintro e w5 ⟨rfl, H', hP', hE'⟩
        have HT5 := hide (HT.out.turn hi3 hP' hE')
        clear hP' hE' p0 p1 q0 q1 m0 m1 m2 m3 m4 m5 m6
        go_wp2
        go_roundw
        case rel =>
          first
            | exact ⟨k + 1, b, r, by omega, by go_num, HT5⟩
            | ((repeat apply Exists.intro); refine ⟨?_, rfl⟩; exact ⟨k + 1, b, r, by omega, by go_num, HT5⟩)
        case measure => simp [intOf]; omega
      have b2 : (o.kd == 2) = false := by simp [k2]
      clear k2
      by_cases k3 : o.kd = 3
      · have t3 : (o.kd == 3) = true := by simp [k3]
        clear k3
        obtain ⟨m1, m2, m3, m4, m5, m6⟩ := HMc.out
        go_wp2_with fail
        refine (show Calls Try.prog 8 #[.agg #[bp (b i), rp' (r i)], .agg #[.int .i64 o.kd, .int .i64 o.t, .int .i64 o.v, .int .i64 o.s, .bool o.b, .int .u32 (o.ad : Nat), .slice o.la o.ll o.lc]] w4 _ from changes_any (HT.out.prs i hi3) o HZo.out HLo.out HMo.out).mono ?_
        rintro e w5 ⟨rfl, H', hP', hE'⟩
        have HT5 := hide (HT.out.turn hi3 hP' hE')
        clear hP' hE' p0 p1 q0 q1 m0 m1 m2 m3 m4 m5 m6
        go_wp2
        go_roundw
        case rel =>
          first
            | exact ⟨k + 1, b, r, by omega, by go_num, HT5⟩
            | ((repeat apply Exists.intro); refine ⟨?_, rfl⟩; exact ⟨k + 1, b, r, by omega, by go_num, HT5⟩)
        case measure => simp [intOf]; omega
      have b3 : (o.kd == 3) = false := by simp [k3]
      clear k3
      by_cases k6 : o.kd = 6
      · have t6 : (o.kd == 6) = true := by simp [k6]
        clear k6
        obtain ⟨m1, m2, m3, m4, m5, m6⟩ := HMc.out
        go_wp2_with fail
        refine (show Calls Try.prog 8 #[.agg #[bp (b i), rp' (r i)], .agg #[.int .i64 o.kd, .int .i64 o.t, .int .i64 o.v, .int .i64 o.s, .bool o.b, .int .u32 (o.ad : Nat), .slice o.la o.ll o.lc]] w4 _ from changes_any (HT.out.prs i hi3) o HZo.out HLo.out HMo.out).mono ?_
        rintro e w5 ⟨rfl, H', hP', hE'⟩
        have HT5 := hide (HT.out.turn hi3 hP' hE')
        clear hP' hE' p0 p1 q0 q1 m0 m1 m2 m3 m4 m5 m6
        go_wp2
        go_roundw
        case rel =>
          first
            | exact ⟨k + 1, b, r, by omega, by go_num, HT5⟩
            | ((repeat apply Exists.intro); refine ⟨?_, rfl⟩; exact ⟨k + 1, b, r, by omega, by go_num, HT5⟩)
        case measure => simp [intOf]; omega
      have b6 : (o.kd == 6) = false := by simp [k6]
      clear k6
      by_cases k8 : o.kd = 8
      · have t8 : (o.kd == 8) = true := by simp [k8]
        clear k8
        obtain ⟨m1, m2, m3, m4, m5, m6⟩ := HMc.out
        go_wp2_with fail
        refine (show Calls Try.prog 8 #[.agg #[bp (b i), rp' (r i)], .agg #[.int .i64 o.kd, .int .i64 o.t, .int .i64 o.v, .int .i64 o.s, .bool o.b, .int .u32 (o.ad : Nat), .slice o.la o.ll o.lc]] w4 _ from changes_any (HT.out.prs i hi3) o HZo.out HLo.out HMo.out).mono ?_
        rintro e w5 ⟨rfl, H', hP', hE'⟩
        have HT5 := hide (HT.out.turn hi3 hP' hE')
        clear hP' hE' p0 p1 q0 q1 m0 m1 m2 m3 m4 m5 m6
        go_wp2
        go_roundw
        case rel =>
          first
            | exact ⟨k + 1, b, r, by omega, by go_num, HT5⟩
            | ((repeat apply Exists.intro); refine ⟨?_, rfl⟩; exact ⟨k + 1, b, r, by omega, by go_num, HT5⟩)
        case measure => simp [intOf]; omega
      have b8 : (o.kd == 8) = false := by simp [k8]
      clear k8
      by_cases k4 : o.kd = 4
      · have t4 : (o.kd == 4) = true := by simp [k4]
        clear k4
        obtain ⟨m1, m2, m3, m4, m5, m6⟩ := HMc.out
        go_wp2_with fail
        refine (show Calls Try.prog 9 #[.agg #[bp (b i), rp' (r i)], .agg #[.int .i64 o.kd, .int .i64 o.t, .int .i64 o.v, .int .i64 o.s, .bool o.b, .int .u32 (o.ad : Nat), .slice o.la o.ll o.lc]] w4 _ from looks_any (HT.out.prs i hi3) o HAo.out).mono ?_
        rintro e w5 ⟨rfl, hb5⟩
        have HT5 : Hid (Tri w w5 A 3 b r) := hide ⟨Hs, HT.out.below hb5⟩
        clear hb5 p0 p1 q0 q1 m0 m1 m2 m3 m4 m5 m6
        go_wp2
        go_roundw
        case rel =>
          first
            | exact ⟨k + 1, b, r, by omega, by go_num, HT5⟩
            | ((repeat apply Exists.intro); refine ⟨?_, rfl⟩; exact ⟨k + 1, b, r, by omega, by go_num, HT5⟩)
        case measure => simp [intOf]; omega
      have b4 : (o.kd == 4) = false := by simp [k4]
      clear k4
      by_cases k5 : o.kd = 5
      · have t5 : (o.kd == 5) = true := by simp [k5]
        clear k5
        obtain ⟨m1, m2, m3, m4, m5, m6⟩ := HMc.out
        go_wp2_with fail
        refine (show Calls Try.prog 9 #[.agg #[bp (b i), rp' (r i)], .agg #[.int .i64 o.kd, .int .i64 o.t, .int .i64 o.v, .int .i64 o.s, .bool o.b, .int .u32 (o.ad : Nat), .slice o.la o.ll o.lc]] w4 _ from looks_any (HT.out.prs i hi3) o HAo.out).mono ?_
        rintro e w5 ⟨rfl, hb5⟩
        have HT5 : Hid (Tri w w5 A 3 b r) := hide ⟨Hs, HT.out.below hb5⟩
        clear hb5 p0 p1 q0 q1 m0 m1 m2 m3 m4 m5 m6
        go_wp2
        go_roundw
        case rel =>
          first
            | exact ⟨k + 1, b, r, by omega, by go_num, HT5⟩
            | ((repeat apply Exists.intro); refine ⟨?_, rfl⟩; exact ⟨k + 1, b, r, by omega, by go_num, HT5⟩)
        case measure => simp [intOf]; omega
      have b5 : (o.kd == 5) = false := by simp [k5]
      clear k5
      by_cases k7 : o.kd = 7
      · have t7 : (o.kd == 7) = true := by simp [k7]
        clear k7
        obtain ⟨m1, m2, m3, m4, m5, m6⟩ := HMc.out
        go_wp2_with fail
        refine (show Calls Try.prog 9 #[.agg #[bp (b i), rp' (r i)], .agg #[.int .i64 o.kd, .int .i64 o.t, .int .i64 o.v, .int .i64 o.s, .bool o.b, .int .u32 (o.ad : Nat), .slice o.la o.ll o.lc]] w4 _ from looks_any (HT.out.prs i hi3) o HAo.out).mono ?_
        rintro e w5 ⟨rfl, hb5⟩
        have HT5 : Hid (Tri w w5 A 3 b r) := hide ⟨Hs, HT.out.below hb5⟩
        clear hb5 p0 p1 q0 q1 m0 m1 m2 m3 m4 m5 m6
        go_wp2
        go_roundw
        case rel =>
          first
            | exact ⟨k + 1, b, r, by omega, by go_num, HT5⟩
            | ((repeat apply Exists.intro); refine ⟨?_, rfl⟩; exact ⟨k + 1, b, r, by omega, by go_num, HT5⟩)
        case measure => simp [intOf]; omega
      have b7 : (o.kd == 7) = false := by simp [k7]
      clear k7
      by_cases k9 : o.kd = 9
      · have t9 : (o.kd == 9) = true := by simp [k9]
        clear k9
        have HPQ : Hid (∀ W, Below w4.heap.size w4 W → W.cell? ⟨Np, 0, none⟩ = some (bp (b i)) ∧ W.cell? ⟨Np, 1, none⟩ = some (rp' (r i)) ∧ W.cell? ⟨Nq, 0, none⟩ = some (bp (b j)) ∧ W.cell? ⟨Nq, 1, none⟩ = some (rp' (r j))) := hide fun W hW => ⟨cup p0 hW, cup p1 hW, cup q0 hW, cup q1 hW⟩
        obtain ⟨mi, Li, Fi, ⟨t1, t2, t3⟩, -, -⟩ := HT.out.prs i hi3
        obtain ⟨mj, Lj, Fj, ⟨s1, s2, s3⟩, -, -⟩ := HT.out.prs j hj3
        have HPi := hide (And.intro t1 (And.intro t2 t3))
        have HPj := hide (And.intro s1 (And.intro s2 s3))
        clear t1 t2 t3 s1 s2 s3
        go_upto_region 30 with fail
        have HT0 : Hid (Below w4.heap.size w4 w4.drew) := hide ⟨rfl, rfl, rfl, Nat.le_refl _, fun _ _ => rfl⟩
        refine wp_region_held_drew (S := fun W => Below w4.heap.size w4 W) (by kernel_rfl) HT0.out (fun _ => ?_)
        generalize w4.drew = wq0 at *
        refine hd_take 0 (o := ⟨some 69, _, _, _, _, _⟩) (.pointer (some ⟨Np, 0, none⟩)) (by kernel_rfl) (by kernel_rfl) (by kernel_rfl) rfl (by rfl) (fun W hSw => by go_simp) (fun _ _ _ h => h) HT0.out ?_
        simp only [Act.put, List.setIfInBounds_toArray, List.set_cons_zero, List.set_cons_succ]
        refine hd_take 1 (o := ⟨some 70, _, _, _, _, _⟩) (bp (b i)) (by kernel_rfl) (by kernel_rfl) (by kernel_rfl) rfl (by rfl) (fun W hSw => by obtain ⟨y0, y1, y2, y3⟩ := HPQ.out W hSw; go_simp) (fun _ _ _ h => h) HT0.out ?_
        simp only [Act.put, List.setIfInBounds_toArray, List.set_cons_zero, List.set_cons_succ]
        refine hd_take 2 (o := ⟨some 71, _, _, _, _, _⟩) (.pointer (some ⟨Nq, 0, none⟩)) (by kernel_rfl) (by kernel_rfl) (by kernel_rfl) rfl (by rfl) (fun W hSw => by go_simp) (fun _ _ _ h => h) HT0.out ?_
        simp only [Act.put, List.setIfInBounds_toArray, List.set_cons_zero, List.set_cons_succ]
        refine hd_take 3 (o := ⟨some 72, _, _, _, _, _⟩) (bp (b j)) (by kernel_rfl) (by kernel_rfl) (by kernel_rfl) rfl (by rfl) (fun W hSw => by obtain ⟨y0, y1, y2, y3⟩ := HPQ.out W hSw; go_simp) (fun _ _ _ h => h) HT0.out ?_
        simp only [Act.put, List.setIfInBounds_toArray, List.set_cons_zero, List.set_cons_succ]
        refine hd_take 5 (o := ⟨some 74, _, _, _, _, _⟩) (.pointer (some ⟨Np, 1, none⟩)) (by kernel_rfl) (by kernel_rfl) (by kernel_rfl) rfl (by rfl) (fun W hSw => by go_simp) (fun _ _ _ h => h) HT0.out ?_
        simp only [Act.put, List.setIfInBounds_toArray, List.set_cons_zero, List.set_cons_succ]
        refine hd_take 6 (o := ⟨some 75, _, _, _, _, _⟩) (rp' (r i)) (by kernel_rfl) (by kernel_rfl) (by kernel_rfl) rfl (by rfl) (fun W hSw => by obtain ⟨y0, y1, y2, y3⟩ := HPQ.out W hSw; go_simp) (fun _ _ _ h => h) HT0.out ?_
        simp only [Act.put, List.setIfInBounds_toArray, List.set_cons_zero, List.set_cons_succ]
        refine hd_take 7 (o := ⟨some 76, _, _, _, _, _⟩) (.pointer (some ⟨Nq, 1, none⟩)) (by kernel_rfl) (by kernel_rfl) (by kernel_rfl) rfl (by rfl) (fun W hSw => by go_simp) (fun _ _ _ h => h) HT0.out ?_
        simp only [Act.put, List.setIfInBounds_toArray, List.set_cons_zero, List.set_cons_succ]
        refine hd_take 8 (o := ⟨some 77, _, _, _, _, _⟩) (rp' (r j)) (by kernel_rfl) (by kernel_rfl) (by kernel_rfl) rfl (by rfl) (fun W hSw => by obtain ⟨y0, y1, y2, y3⟩ := HPQ.out W hSw; go_simp) (fun _ _ _ h => h) HT0.out ?_
        simp only [Act.put, List.setIfInBounds_toArray, List.set_cons_zero, List.set_cons_succ]
        refine hd_call 4 (o := ⟨some 73, _, _, _, _, _⟩) (by kernel_rfl) rfl (by rfl) (fun K hK => ?_)
        go_simp
        go_wp2_with (go_at_call 10; refine (equal_any _ _ _ _ _ (HPi.out.1.below HT0.out) (HPj.out.1.below HT0.out)).mono ?_; rintro e1 wq1 ⟨rfl, hbq⟩)
        have HT1 := hide (HT0.out.trans (hbq.mono HT0.out.size))
        clear hbq
        refine hK _ _ HT1.out ?_
        clear hK K
        try simp only [Act.put, List.setIfInBounds_toArray, List.set_cons_zero, List.set_cons_succ]
        refine hd_call 9 (o := ⟨some 78, _, _, _, _, _⟩) (by kernel_rfl) rfl (by rfl) (fun K hK => ?_)
        go_simp
        go_wp2_with (go_at_call 11; refine (equalR_any (good_below (good_rt _ _) HPi.out.2.1 HT1.out) (good_below (good_rt _ _) HPj.out.2.1 HT1.out) HPi.out.2.2 HPj.out.2.2).mono ?_; rintro e1 wq2 ⟨rfl, hbq⟩)
        have HT2 := hide (HT1.out.trans (hbq.mono HT1.out.size))
        clear hbq
        refine hK _ _ HT2.out ?_
        clear hK K
        try simp only [Act.put, List.setIfInBounds_toArray, List.set_cons_zero, List.set_cons_succ]
        generalize same mi mj = sb at *
        refine hd_take 10 (o := ⟨some 79, _, _, _, _, _⟩) (.bool true) (by kernel_rfl) (by kernel_rfl) (by kernel_rfl) rfl (by rfl) (fun W hSw => by go_simp) (fun _ _ _ h => h) HT2.out ?_
        simp only [Act.put, List.setIfInBounds_toArray, List.set_cons_zero, List.set_cons_succ]
        refine hd_take 11 (o := ⟨some 3, _, _, _, _, _⟩) (.bool true) (by kernel_rfl) (by kernel_rfl) (by kernel_rfl) rfl (by rfl) (fun W hSw => by go_simp) (fun _ _ _ h => h) HT2.out ?_
        simp only [Act.put, List.setIfInBounds_toArray, List.set_cons_zero, List.set_cons_succ]
        refine wpAnyH_done (by kernel_rfl) ?_ _
        have HT5 : Hid (Tri w _ A 3 b r) := hide ⟨Hs, HT.out.below HT2.out⟩
        clear p0 p1 q0 q1 m0 HPQ
        go_wp2
        go_roundw
        case rel =>
          first
            | exact ⟨k + 1, b, r, by omega, by go_num, HT5⟩
            | ((repeat apply Exists.intro); refine ⟨?_, rfl⟩; exact ⟨k + 1, b, r, by omega, by go_num, HT5⟩)
        case measure => simp [intOf]; omega
      have b9 : (o.kd == 9) = false := by simp [k9]
      clear k9
      by_cases k10 : o.kd = 10
      · have t10 : (o.kd == 10) = true := by simp [k10]
        clear k10
        have HPQ : Hid (∀ W : World, (W.heap[Np]? = some (.cells #[bp (b i), rp' (r i)] 27 (0, 0)) ∧ W.heap[Nq]? = some (.cells #[bp (b j), rp' (r j)] 27 (0, 0))) → W.cell? ⟨Np, 0, none⟩ = some (bp (b i)) ∧ W.cell? ⟨Np, 1, none⟩ = some (rp' (r i)) ∧ W.cell? ⟨Nq, 0, none⟩ = some (bp (b j)) ∧ W.cell? ⟨Nq, 1, none⟩ = some (rp' (r j))) := hide fun W hW => ⟨by rw [cell_of_row _ _ _ _ _ _ hW.1]; rfl, by rw [cell_of_row _ _ _ _ _ _ hW.1]; rfl, by rw [cell_of_row _ _ _ _ _ _ hW.2]; rfl, by rw [cell_of_row _ _ _ _ _ _ hW.2]; rfl⟩
        obtain ⟨mi, Li, Fi, ⟨t1, t2, t3⟩, hei, hni⟩ := HT.out.prs i hi3
        obtain ⟨mj, Lj, Fj, ⟨s1, s2, s3⟩, hej, hnj⟩ := HT.out.prs j hj3
        have HNji : Hid (¬ Fj (b i)) := hide (HT.out.apart hi3 hj3 hei hej hnj)
        have HNp : Hid (Np ≠ b i ∧ Nq ≠ b i ∧ (∀ x, Fi x → x ≠ Np ∧ x ≠ Nq)) := hide ⟨fun e => HNQ.out.1 i hi3 ((hei _).2 (.inl e)), fun e => HNQ.out.2 i hi3 ((hei _).2 (.inl e)), fun x hx => ⟨fun e => HNQ.out.1 i hi3 ((hei _).2 (.inr (e ▸ hx))), fun e => HNQ.out.2 i hi3 ((hei _).2 (.inr (e ▸ hx)))⟩⟩
        have HPi := hide (And.intro t1 (And.intro t2 t3))
        have HPj := hide (And.intro s1 (And.intro s2 s3))
        have HEi := hide (And.intro hei hni)
        clear t1 t2 t3 s1 s2 s3 hei hej hni hnj p0 p1 q0 q1
        go_upto_region 32 with fail
        have HB0 : Hid (Below w4.heap.size w4 w4.drew) := hide ⟨rfl, rfl, rfl, Nat.le_refl _, fun _ _ => rfl⟩
        have HS0 : Hid (w4.drew.heap[Np]? = some (.cells #[bp (b i), rp' (r i)] 27 (0, 0)) ∧ w4.drew.heap[Nq]? = some (.cells #[bp (b j), rp' (r j)] 27 (0, 0))) := hide ⟨HNp1.out, HNq1.out⟩
        refine wp_region_held_drew (S := (fun W : World => W.heap[Np]? = some (.cells #[bp (b i), rp' (r i)] 27 (0, 0)) ∧ W.heap[Nq]? = some (.cells #[bp (b j), rp' (r j)] 27 (0, 0)))) (by kernel_rfl) HS0.out (fun _ => ?_)
        generalize w4.drew = wq0 at *
        refine hd_take 0 (o := ⟨some 82, _, _, _, _, _⟩) (.pointer (some ⟨Np, 0, none⟩)) (by kernel_rfl) (by kernel_rfl) (by kernel_rfl) rfl (by rfl) (fun W hSw => by go_simp) (fun _ _ _ h => h) HS0.out ?_
        simp only [Act.put, List.setIfInBounds_toArray, List.set_cons_zero, List.set_cons_succ]
        refine hd_take 1 (o := ⟨some 83, _, _, _, _, _⟩) (bp (b i)) (by kernel_rfl) (by kernel_rfl) (by kernel_rfl) rfl (by rfl) (fun W hSw => by obtain ⟨y0, y1, y2, y3⟩ := HPQ.out W hSw; go_simp) (fun _ _ _ h => h) HS0.out ?_
        simp only [Act.put, List.setIfInBounds_toArray, List.set_cons_zero, List.set_cons_succ]
        refine hd_take 2 (o := ⟨some 84, _, _, _, _, _⟩) (.pointer (some ⟨Nq, 0, none⟩)) (by kernel_rfl) (by kernel_rfl) (by kernel_rfl) rfl (by rfl) (fun W hSw => by go_simp) (fun _ _ _ h => h) HS0.out ?_
        simp only [Act.put, List.setIfInBounds_toArray, List.set_cons_zero, List.set_cons_succ]
        refine hd_take 3 (o := ⟨some 85, _, _, _, _, _⟩) (bp (b j)) (by kernel_rfl) (by kernel_rfl) (by kernel_rfl) rfl (by rfl) (fun W hSw => by obtain ⟨y0, y1, y2, y3⟩ := HPQ.out W hSw; go_simp) (fun _ _ _ h => h) HS0.out ?_
        simp only [Act.put, List.setIfInBounds_toArray, List.set_cons_zero, List.set_cons_succ]
        refine hd_take 6 (o := ⟨some 88, _, _, _, _, _⟩) (.pointer (some ⟨Np, 1, none⟩)) (by kernel_rfl) (by kernel_rfl) (by kernel_rfl) rfl (by rfl) (fun W hSw => by go_simp) (fun _ _ _ h => h) HS0.out ?_
        simp only [Act.put, List.setIfInBounds_toArray, List.set_cons_zero, List.set_cons_succ]
        refine hd_take 7 (o := ⟨some 89, _, _, _, _, _⟩) (rp' (r i)) (by kernel_rfl) (by kernel_rfl) (by kernel_rfl) rfl (by rfl) (fun W hSw => by obtain ⟨y0, y1, y2, y3⟩ := HPQ.out W hSw; go_simp) (fun _ _ _ h => h) HS0.out ?_
        simp only [Act.put, List.setIfInBounds_toArray, List.set_cons_zero, List.set_cons_succ]
        refine hd_take 8 (o := ⟨some 90, _, _, _, _, _⟩) (.pointer (some ⟨Nq, 1, none⟩)) (by kernel_rfl) (by kernel_rfl) (by kernel_rfl) rfl (by rfl) (fun W hSw => by go_simp) (fun _ _ _ h => h) HS0.out ?_
        simp only [Act.put, List.setIfInBounds_toArray, List.set_cons_zero, List.set_cons_succ]
        refine hd_take 9 (o := ⟨some 91, _, _, _, _, _⟩) (rp' (r j)) (by kernel_rfl) (by kernel_rfl) (by kernel_rfl) rfl (by rfl) (fun W hSw => by obtain ⟨y0, y1, y2, y3⟩ := HPQ.out W hSw; go_simp) (fun _ _ _ h => h) HS0.out ?_
        simp only [Act.put, List.setIfInBounds_toArray, List.set_cons_zero, List.set_cons_succ]
        refine hd_call 4 (o := ⟨some 86, _, _, _, _, _⟩) (by kernel_rfl) rfl (by rfl) (fun K hK => ?_)
        go_simp
        go_wp2_with (go_at_call 13; refine (entries_any _ (b j) mj (HPj.out.1.below HB0.out)).mono ?_; rintro e1 wq1 ⟨r1, rfl, hr1, hbq⟩)
        have HB1 := hide (HB0.out.trans (hbq.mono HB0.out.size))
        have HS1 : Hid (wq1.heap[Np]? = some (.cells #[bp (b i), rp' (r i)] 27 (0, 0)) ∧ wq1.heap[Nq]? = some (.cells #[bp (b j), rp' (r j)] 27 (0, 0))) := hide ⟨(hbq.block Np (Array.getElem?_eq_some_iff.1 HS0.out.1).1).trans HS0.out.1, (hbq.block Nq (Array.getElem?_eq_some_iff.1 HS0.out.2).1).trans HS0.out.2⟩
        obtain ⟨a1, c1, h1s⟩ := hr1.len
        subst h1s
        have HO1 := hide hr1
        clear hr1 hbq
        refine hK _ _ HS1.out ?_
        clear hK K
        try simp only [Act.put, List.setIfInBounds_toArray, List.set_cons_zero, List.set_cons_succ]
        have hlen16 := ents_len mj 16
        have HLd := hide (load_any wq1 (b i) mi a1 (ents mj 16).length c1 _ (HPi.out.1.below HB1.out) HO1.out.maps (by unfold maxLen; omega))
        refine hd_call 5 (o := ⟨some 87, _, _, _, _, _⟩) (by kernel_rfl) rfl (by rfl) (fun K hK => ?_)
        go_simp
        go_wp2_with (go_at_call 12; refine (lay_both HLd.out (HPi.out.1.below HB1.out)).mono ?_; rintro e1 wq2 ⟨c, m2, rfl, hTb2, hMd2, hcase⟩)
        have HM2 : Hid (Mod (fun x => x = b i) w4 wq2) := hide ((Mod.of_below HB1.out).trans hMd2)
        have HS2 : Hid (wq2.heap[Np]? = some (.cells #[bp (b i), rp' (r i)] 27 (0, 0)) ∧ wq2.heap[Nq]? = some (.cells #[bp (b j), rp' (r j)] 27 (0, 0))) := hide ⟨(hMd2.block Np (Array.getElem?_eq_some_iff.1 HS1.out.1).1 HNp.out.1).trans HS1.out.1, (hMd2.block Nq (Array.getElem?_eq_some_iff.1 HS1.out.2).1 HNp.out.2.1).trans HS1.out.2⟩
        have HTb2 := hide hTb2
        have HCs := hide hcase
        clear hTb2 hMd2 hcase HLd
        refine hK _ _ HS2.out ?_
        clear hK K
        try simp only [Act.put, List.setIfInBounds_toArray, List.set_cons_zero, List.set_cons_succ]
        have HRj2 := hide (pr_mid HPj.out.2.1 HNji.out HM2.out)
        have HRi2 := hide (pr_mid HPi.out.2.1 HEi.out.2 HM2.out)
        refine hd_call 10 (o := ⟨some 92, _, _, _, _, _⟩) (by kernel_rfl) rfl (by rfl) (fun K hK => ?_)
        go_simp
        go_wp2_with (go_at_call 15; refine (entriesR_any (m := mj) HRj2.out HPj.out.2.2).mono ?_; rintro e1 wq3 ⟨r2, rfl, hr2, hbq⟩)
        have HS3 : Hid (wq3.heap[Np]? = some (.cells #[bp (b i), rp' (r i)] 27 (0, 0)) ∧ wq3.heap[Nq]? = some (.cells #[bp (b j), rp' (r j)] 27 (0, 0))) := hide ⟨(hbq.block Np (Array.getElem?_eq_some_iff.1 HS2.out.1).1).trans HS2.out.1, (hbq.block Nq (Array.getElem?_eq_some_iff.1 HS2.out.2).1).trans HS2.out.2⟩
        obtain ⟨a2, c2, h2s⟩ := hr2.len
        subst h2s
        have HO2 := hide hr2
        have HM3 : Hid (Mod (fun x => x = b i) w4 wq3) := hide (HM2.out.trans (Mod.of_below hbq))
        have HTb3 := hide (HTb2.out.below hbq)
        have HRi3 := hide (good_below (good_rt _ _) HRi2.out hbq)
        clear hr2 hbq
        refine hK _ _ HS3.out ?_
        clear hK K
        try simp only [Act.put, List.setIfInBounds_toArray, List.set_cons_zero, List.set_cons_succ]
        have HLR := hide (loadR_any HRi3.out a2 (ents mj 16).length c2 _ HO2.out.maps (by unfold maxLen; omega))
        refine hd_call 11 (o := ⟨some 93, _, _, _, _, _⟩) (by kernel_rfl) rfl (by rfl) (fun K hK => ?_)
        go_simp
        go_wp2_with (go_at_call 14; refine (layR_both HCs.out HPi.out.2.2 HRi3.out HLR.out).mono ?_; rintro e1 wq4 ⟨rfl, K2, F2, hA4, hR4, hE4⟩)
        obtain ⟨H', hP', hE'⟩ := pr_two HEi.out.1 HEi.out.2 HTb3.out HM3.out hR4 hE4 hA4
        have HT5 := hide (HT.out.turn hi3 hP' hE')
        have HS4 : Hid (wq4.heap[Np]? = some (.cells #[bp (b i), rp' (r i)] 27 (0, 0)) ∧ wq4.heap[Nq]? = some (.cells #[bp (b j), rp' (r j)] 27 (0, 0))) := hide ⟨(hE4.mod.block Np (Array.getElem?_eq_some_iff.1 HS3.out.1).1 (fun e => (HNp.out.2.2 _ e).1 rfl)).trans HS3.out.1, (hE4.mod.block Nq (Array.getElem?_eq_some_iff.1 HS3.out.2).1 (fun e => (HNp.out.2.2 _ e).2 rfl)).trans HS3.out.2⟩
        clear hA4 hR4 hE4 hP' hE' HLR
        refine hK _ _ HS4.out ?_
        clear hK K
        try simp only [Act.put, List.setIfInBounds_toArray, List.set_cons_zero, List.set_cons_succ]
        refine hd_take 12 (o := ⟨some 94, _, _, _, _, _⟩) (.bool true) (by kernel_rfl) (by kernel_rfl) (by kernel_rfl) rfl (by rfl) (fun W hSw => by go_simp) (fun _ _ _ h => h) HS4.out ?_
        simp only [Act.put, List.setIfInBounds_toArray, List.set_cons_zero, List.set_cons_succ]
        refine hd_take 13 (o := ⟨some 3, _, _, _, _, _⟩) (.bool true) (by kernel_rfl) (by kernel_rfl) (by kernel_rfl) rfl (by rfl) (fun W hSw => by go_simp) (fun _ _ _ h => h) HS4.out ?_
        simp only [Act.put, List.setIfInBounds_toArray, List.set_cons_zero, List.set_cons_succ]
        refine wpAnyH_done (by kernel_rfl) ?_ _
        clear m0 HPQ
        go_wp2
        go_roundw
        case rel =>
          first
            | exact ⟨k + 1, b, r, by omega, by go_num, HT5⟩
            | ((repeat apply Exists.intro); refine ⟨?_, rfl⟩; exact ⟨k + 1, b, r, by omega, by go_num, HT5⟩)
        case measure => simp [intOf]; omega
      have b10 : (o.kd == 10) = false := by simp [k10]
      clear k10
      by_cases k11 : o.kd = 11
      · have t11 : (o.kd == 11) = true := by simp [k11]
        clear k11
        clear p0 p1 q0 q1
        go_wp2_with fail
        refine (new_any w4).mono ?_
        rintro e w5 ⟨rfl, hn1, hb5⟩
        go_wp2_with fail
        refine (newR_any w5).mono ?_
        rintro e w6 ⟨rfl, hn2, hb6⟩
        obtain ⟨hPn, hln⟩ := pr_new hn1 (Nat.le_refl _) hb5 hn2 rfl hb6
        have hb7 := (hb5.trans (hb6.mono hb5.size)).alloc (Nat.le_trans hb5.size hb6.size) (.cells #[bp w4.heap.size, rp' w5.heap.size] 27)
        have hNn := heap_alloc_new w6 (.cells #[bp w4.heap.size, rp' w5.heap.size] 27)
        have hPn7 := good_below (good_pr _ _) hPn ((Below.refl _ _).alloc (Nat.le_refl w6.heap.size) (.cells #[bp w4.heap.size, rp' w5.heap.size] 27))
        have HPn := hide hPn7
        have HLn := hide hln
        have HB7 := hide hb7
        have hb5s := hb5.size
        have hb6s := hb6.size
        clear hn1 hn2 hb5 hb6 hPn hPn7 hln hb7 m0
        go_upto_region 35 with fail
        generalize w6.alloc (.cells #[bp w4.heap.size, rp' w5.heap.size] 27) = w7 at *
        have HNw : Hid (w4.heap.size ≤ w6.heap.size) := hide (Nat.le_trans hb5s hb6s)
        generalize w6.heap.size = Nn at *
        generalize w5.heap.size = R8 at *
        have y0 : w7.cell? ⟨Nn, 0, none⟩ = some (bp w4.heap.size) := by rw [cell_of_row _ _ _ _ _ _ hNn]; rfl
        have y1 : w7.cell? ⟨Nn, 1, none⟩ = some (rp' R8) := by rw [cell_of_row _ _ _ _ _ _ hNn]; rfl
        have m1 : w7.cell? ⟨M, 1, none⟩ = some (.int .i64 o.t) := by rw [cell_of_row _ _ _ _ _ _ ((HB7.out.block M (Array.getElem?_eq_some_iff.1 HM.out).1).trans HM.out)]; rfl
        have HNn := hide hNn
        clear hNn
        go_upto_region 37 with fail
        have HPQ : Hid (∀ W : World, (W.heap[Nn]? = some (.cells #[bp w4.heap.size, rp' R8] 27 (0, 0)) ∧ W.heap[M]? = some (.cells #[.int .i64 o.kd, .int .i64 o.t, .int .i64 o.v, .int .i64 o.s, .bool o.b, .int .u32 (o.ad : Nat), .slice o.la o.ll o.lc] 34 (0, 0))) → W.cell? ⟨Nn, 0, none⟩ = some (bp w4.heap.size) ∧ W.cell? ⟨Nn, 1, none⟩ = some (rp' R8) ∧ W.cell? ⟨M, 1, none⟩ = some (.int .i64 o.t)) := hide fun W hW => ⟨by rw [cell_of_row _ _ _ _ _ _ hW.1]; rfl, by rw [cell_of_row _ _ _ _ _ _ hW.1]; rfl, by rw [cell_of_row _ _ _ _ _ _ hW.2]; rfl⟩
        have HAN : Hid (Nn ≠ A ∧ M ≠ A) := by
          have hAl := (Array.getElem?_eq_some_iff.1 HT.out.arr).1
          refine hide ⟨fun e => ?_, fun e => ?_⟩
          · have := HNw.out; omega
          · have h8 := HM.out
            rw [e, HT.out.arr] at h8
            simp at h8
        clear y0 y1 m1
        have HBd : Hid (Below w7.heap.size w7 w7.drew) := hide ⟨rfl, rfl, rfl, Nat.le_refl _, fun _ _ => rfl⟩
        have HT0 : Hid (w7.drew.heap[Nn]? = some (.cells #[bp w4.heap.size, rp' R8] 27 (0, 0)) ∧ w7.drew.heap[M]? = some (.cells #[.int .i64 o.kd, .int .i64 o.t, .int .i64 o.v, .int .i64 o.s, .bool o.b, .int .u32 (o.ad : Nat), .slice o.la o.ll o.lc] 34 (0, 0))) := hide ⟨HNn.out, (HB7.out.block M (Array.getElem?_eq_some_iff.1 HM.out).1).trans HM.out⟩
        refine wp_region_held_drew (S := fun W => W.heap[Nn]? = some (.cells #[bp w4.heap.size, rp' R8] 27 (0, 0)) ∧ W.heap[M]? = some (.cells #[.int .i64 o.kd, .int .i64 o.t, .int .i64 o.v, .int .i64 o.s, .bool o.b, .int .u32 (o.ad : Nat), .slice o.la o.ll o.lc] 34 (0, 0))) (by kernel_rfl) HT0.out (fun _ => ?_)
        generalize w7.drew = wq0 at *
        refine hd_take 0 (o := ⟨some 103, _, _, _, _, _⟩) (.pointer (some ⟨M, 1, none⟩)) (by kernel_rfl) (by kernel_rfl) (by kernel_rfl) rfl (by rfl) (fun W hSw => by go_simp) (fun _ _ _ h => h) HT0.out ?_
        simp only [Act.put, List.setIfInBounds_toArray, List.set_cons_zero, List.set_cons_succ]
        refine hd_take 1 (o := ⟨some 104, _, _, _, _, _⟩) (.int .i64 o.t) (by kernel_rfl) (by kernel_rfl) (by kernel_rfl) rfl (by rfl) (fun W hSw => by obtain ⟨z0, z1, z2⟩ := HPQ.out W hSw; go_simp) (fun _ _ _ h => h) HT0.out ?_
        simp only [Act.put, List.setIfInBounds_toArray, List.set_cons_zero, List.set_cons_succ]
        refine hd_take 3 (o := ⟨some 106, _, _, _, _, _⟩) (.agg #[bp w4.heap.size, rp' R8]) (by kernel_rfl) (by kernel_rfl) (by kernel_rfl) rfl (by rfl) (fun W hSw => by obtain ⟨z0, z1, z2⟩ := HPQ.out W hSw; go_simp) (fun _ _ _ h => h) HT0.out ?_
        simp only [Act.put, List.setIfInBounds_toArray, List.set_cons_zero, List.set_cons_succ]
        refine hd_call 2 (o := ⟨some 105, _, _, _, _, _⟩) (by kernel_rfl) rfl (by rfl) (fun K hK => ?_)
        go_simp
        go_wp2_with (go_at_call 7; refine (rest_any _ o.t).mono ?_; rintro e1 wq1 ⟨i8, hi8, rfl, rfl⟩)
        refine hK _ _ HT0.out ?_
        clear hK K
        try simp only [Act.put, List.setIfInBounds_toArray, List.set_cons_zero, List.set_cons_succ]
        have hi8i : (i8 : Int) < 3 := by omega
        refine hd_take 4 (o := ⟨some 107, _, _, _, _, _⟩) (.pointer (some ⟨A, i8 * 2, none⟩)) (by kernel_rfl) (by kernel_rfl) (by kernel_rfl) rfl (by rfl) (fun W hSw => by go_simp) (fun _ _ _ h => h) HT0.out ?_
        simp only [Act.put, List.setIfInBounds_toArray, List.set_cons_zero, List.set_cons_succ]
        have hb8 := HB7.out.trans (HBd.out.mono HB7.out.size)
        have hTq := HT.out.below hb8
        obtain ⟨z0, z1⟩ := hTq.cells hi8 hi8
        have f0 := frozen_of_row _ _ (i8 * 2) _ _ hTq.arr
        have f1 := frozen_of_row _ _ (i8 * 2 + 1) _ _ hTq.arr
        have HT5 := hide (HT.out.put hi8 hi8 (fun _ _ _ => Iff.rfl) (Nat.le_refl 3) hb8 (good_below (good_pr _ _) HPn.out HBd.out) HLn.out)
        clear hTq hb8
        refine hd_call 5 (o := ⟨none, _, _, _, _, _⟩) (by kernel_rfl) rfl (by rfl) (fun K hK => ?_)
        go_simp
        refine hK _ _ ⟨(heap_setCell_other _ _ _ _ HAN.out.1).trans ((heap_setCell_other _ _ _ _ HAN.out.1).trans HT0.out.1), (heap_setCell_other _ _ _ _ HAN.out.2).trans ((heap_setCell_other _ _ _ _ HAN.out.2).trans HT0.out.2)⟩ ?_
        clear hK K
        try simp only [Act.put, List.setIfInBounds_toArray, List.set_cons_zero, List.set_cons_succ]
        refine wpAnyH_done (by kernel_rfl) ?_ _
        clear z0 z1 f0 f1
        go_wp2
        go_roundw
        case rel =>
          first
            | exact ⟨k + 1, _, _, by omega, by go_num, HT5⟩
            | ((repeat apply Exists.intro); refine ⟨?_, rfl⟩; exact ⟨k + 1, _, _, by omega, by go_num, HT5⟩)
        case measure => simp [intOf]; omega
      have b11 : (o.kd == 11) = false := by simp [k11]
      clear k11
      have HT5 : Hid (Tri w w4 A 3 b r) := hide ⟨Hs, HT.out⟩
      clear p0 p1 q0 q1
      go_wp2
      go_roundw
      case rel =>
        first
          | exact ⟨k + 1, b, r, by omega, by go_num, HT5⟩
          | ((repeat apply Exists.intro); refine ⟨?_, rfl⟩; exact ⟨k + 1, b, r, by omega, by go_num, HT5⟩)
      case measure => simp [intOf]; omega
  have hd1 : decide ((k : Int) < (len : Int)) = false := by simp; omega
  have hd1n : decide (k < len) = false := by simp; omega
  have hd1o : ¬ k < len := by omega
  clear hlt hk
  go_wp2_with fail
  go_loopw [11] (fun x wr => ∃ q : Nat, q ≤ 3 ∧ x = .int .i64 (q : Int) ∧ Hid (Tri w wr A 3 b r)) (fun x _ => 3 - (intOf x).toNat)
  case atStart => exact ⟨0, by omega, rfl, K1⟩
  case round =>
  clear K1
  obtain ⟨q, hq, rfl, K1⟩ := hrel
  by_cases hlt : q < 3
  · have hd2 : decide ((q : Int) < 3) = true := by simp; omega
    have hqi : (q : Int) < 3 := by omega
    obtain ⟨Hs, hT⟩ := K1.out
    obtain ⟨z0, z1⟩ := hT.cells hlt hlt
    obtain ⟨m, L, F, ⟨t1, t2, t3⟩, -, -⟩ := hT.prs q hlt
    have HT := hide hT
    have HPi := hide (And.intro t1 (And.intro t2 t3))
    have HPQ : Hid (∀ W, Below wr.heap.size wr W → W.cell? ⟨A, q * 2, none⟩ = some (bp (b q)) ∧ W.cell? ⟨A, q * 2 + 1, none⟩ = some (rp' (r q))) := hide fun W hW => ⟨cup z0 hW, cup z1 hW⟩
    clear hT t1 t2 t3 z0 z1 K1
    go_upto_region 43 with fail
    have HT0 : Hid (Below wr.heap.size wr wr.drew) := hide ⟨rfl, rfl, rfl, Nat.le_refl _, fun _ _ => rfl⟩
    refine wp_region_held_drew (S := fun W => Below wr.heap.size wr W) (by kernel_rfl) HT0.out (fun _ => ?_)
    generalize wr.drew = wq0 at *
    refine hd_take 0 (o := ⟨some 114, _, _, _, _, _⟩) (.int .i64 (q : Int)) (by kernel_rfl) (by kernel_rfl) (by kernel_rfl) rfl (by rfl) (fun W hSw => by go_simp) (fun _ _ _ h => h) HT0.out ?_
    simp only [Act.put, List.setIfInBounds_toArray, List.set_cons_zero, List.set_cons_succ]
    refine hd_take 1 (o := ⟨some 115, _, _, _, _, _⟩) (.pointer (some ⟨A, q * 2, none⟩)) (by kernel_rfl) (by kernel_rfl) (by kernel_rfl) rfl (by rfl) (fun W hSw => by go_simp) (fun _ _ _ h => h) HT0.out ?_
    simp only [Act.put, List.setIfInBounds_toArray, List.set_cons_zero, List.set_cons_succ]
    refine hd_take 2 (o := ⟨some 116, _, _, _, _, _⟩) (.pointer (some ⟨A, q * 2, none⟩)) (by kernel_rfl) (by kernel_rfl) (by kernel_rfl) rfl (by rfl) (fun W hSw => by go_simp) (fun _ _ _ h => h) HT0.out ?_
    simp only [Act.put, List.setIfInBounds_toArray, List.set_cons_zero, List.set_cons_succ]
    refine hd_take 3 (o := ⟨some 117, _, _, _, _, _⟩) (bp (b q)) (by kernel_rfl) (by kernel_rfl) (by kernel_rfl) rfl (by rfl) (fun W hSw => by obtain ⟨y0, y1⟩ := HPQ.out W hSw; go_simp) (fun _ _ _ h => h) HT0.out ?_
    simp only [Act.put, List.setIfInBounds_toArray, List.set_cons_zero, List.set_cons_succ]
    refine hd_take 5 (o := ⟨some 119, _, _, _, _, _⟩) (.int .i64 (q : Int)) (by kernel_rfl) (by kernel_rfl) (by kernel_rfl) rfl (by rfl) (fun W hSw => by go_simp) (fun _ _ _ h => h) HT0.out ?_
    simp only [Act.put, List.setIfInBounds_toArray, List.set_cons_zero, List.set_cons_succ]
    refine hd_take 6 (o := ⟨some 120, _, _, _, _, _⟩) (.pointer (some ⟨A, q * 2, none⟩)) (by kernel_rfl) (by kernel_rfl) (by kernel_rfl) rfl (by rfl) (fun W hSw => by go_simp) (fun _ _ _ h => h) HT0.out ?_
    simp only [Act.put, List.setIfInBounds_toArray, List.set_cons_zero, List.set_cons_succ]
    refine hd_take 7 (o := ⟨some 121, _, _, _, _, _⟩) (.pointer (some ⟨A, q * 2 + 1, none⟩)) (by kernel_rfl) (by kernel_rfl) (by kernel_rfl) rfl (by rfl) (fun W hSw => by go_simp) (fun _ _ _ h => h) HT0.out ?_
    simp only [Act.put, List.setIfInBounds_toArray, List.set_cons_zero, List.set_cons_succ]
    refine hd_take 8 (o := ⟨some 122, _, _, _, _, _⟩) (rp' (r q)) (by kernel_rfl) (by kernel_rfl) (by kernel_rfl) rfl (by rfl) (fun W hSw => by obtain ⟨y0, y1⟩ := HPQ.out W hSw; go_simp) (fun _ _ _ h => h) HT0.out ?_
    simp only [Act.put, List.setIfInBounds_toArray, List.set_cons_zero, List.set_cons_succ]
    refine hd_call 4 (o := ⟨some 118, _, _, _, _, _⟩) (by kernel_rfl) rfl (by rfl) (fun K hK => ?_)
    go_simp
    go_wp2_with (go_at_call 13; refine (entries_any _ (b q) m (HPi.out.1.below HT0.out)).mono ?_; rintro e1 wq1 ⟨r1, rfl, hr1, hbq⟩)
    have HT1 := hide (HT0.out.trans (hbq.mono HT0.out.size))
    have HO1 := hide hr1
    clear hr1 hbq
    refine hK _ _ HT1.out ?_
    clear hK K
    try simp only [Act.put, List.setIfInBounds_toArray, List.set_cons_zero, List.set_cons_succ]
    refine hd_call 9 (o := ⟨some 123, _, _, _, _, _⟩) (by kernel_rfl) rfl (by rfl) (fun K hK => ?_)
    go_simp
    go_wp2_with (go_at_call 15; refine (entriesR_any (m := m) (good_below (good_rt _ _) HPi.out.2.1 HT1.out) HPi.out.2.2).mono ?_; rintro e1 wq2 ⟨r2, rfl, hr2, hbq⟩)
    have HT2 := hide (HT1.out.trans (hbq.mono HT1.out.size))
    have HO1b := hide (HO1.out.below hbq)
    have HO2 := hide hr2
    clear hr2 hbq
    obtain ⟨a1, c1, h1s⟩ := HO1b.out.len
    obtain ⟨a2, c2, h2s⟩ := HO2.out.len
    subst h1s
    subst h2s
    refine hK _ _ HT2.out ?_
    clear hK K
    try simp only [Act.put, List.setIfInBounds_toArray, List.set_cons_zero, List.set_cons_succ]
    refine hd_call 10 (o := ⟨some 124, _, _, _, _, _⟩) (by kernel_rfl) rfl (by rfl) (fun K hK => ?_)
    go_simp
    go_wp2_with (go_at_call 16; refine (sameMaps_eq _ a1 a2 (ents m 16).length c1 c2 _ _ HO1b.out.maps HO2.out.maps (fun _ _ => rfl) (by have := ents_len m 16; unfold maxLen; omega)).mono ?_; rintro e1 wq3 ⟨rfl, hbq⟩)
    have HT3 := hide (HT2.out.trans (hbq.mono HT2.out.size))
    clear hbq
    refine hK _ _ HT3.out ?_
    clear hK K
    try simp only [Act.put, List.setIfInBounds_toArray, List.set_cons_zero, List.set_cons_succ]
    refine hd_take 11 (o := ⟨some 125, _, _, _, _, _⟩) (.bool false) (by kernel_rfl) (by kernel_rfl) (by kernel_rfl) rfl (by rfl) (fun W hSw => by go_simp) (fun _ _ _ h => h) HT3.out ?_
    simp only [Act.put, List.setIfInBounds_toArray, List.set_cons_zero, List.set_cons_succ]
    refine wpAnyH_done (by kernel_rfl) ?_ _
    have HT5 : Hid (Tri w _ A 3 b r) := hide ⟨Hs, HT.out.below HT3.out⟩
    go_wp2
    go_roundw
    case rel =>
      first
        | exact ⟨q + 1, by omega, by go_num, HT5⟩
        | ((repeat apply Exists.intro); refine ⟨?_, rfl⟩; exact ⟨q + 1, by omega, by go_num, HT5⟩)
    case measure => simp [intOf]; omega
  · have hd3 : decide ((q : Int) < 3) = false := by simp; omega
    have HB := hide K1.out.bel
    clear K1
    go_wp2
    go_ret
    exact ⟨rfl, HB.out⟩
end Go.Proofs.Ytmflohehnoghhaa
