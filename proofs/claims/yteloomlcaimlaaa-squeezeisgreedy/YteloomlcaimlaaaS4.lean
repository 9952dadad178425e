import Derived.Test.YteloomlcaimlaaaS3
import Derived.Deep.DeepCutAuto
namespace Go.Proofs.Yteloomlcaimlaaa
open Go.RowKit
theorem gr_ok {b : List Nat} (hb : b.length ≤ 65536) {i o : Nat} {t : Tok} {ts : List Tok} (h : Gr b i o (t :: ts)) : okT t := by
  cases t with
  | inl r => exact ⟨h.1, h.2.1⟩
  | inr c =>
    obtain ⟨h1, h2, h3, _⟩ := h
    have g := cp_four b i (by rw [h2]; exact h3)
    have g2 := Nat.le_trans (cp_le b i) (mst_le b i)
    rw [h2] at g g2
    exact ⟨g.1, g2, g.2.1, by omega⟩
theorem enc_len (t : Tok) : (enc t).length = (pcT t).2.2 := by cases t <;> rfl
theorem drop_enc {p : List Nat} {a : Nat} {t : Tok} {ts : List Tok} (h : p.drop a = encs (t :: ts)) : p.drop (a + (pcT t).2.2) = encs ts := by
  rw [← List.drop_drop, h, encs_cons, ← enc_len, List.drop_left]
theorem enc_pos (t : Tok) : 0 < (enc t).length := by cases t <;> simp [enc]
theorem quiet_of_draws {P : Program} {f : FuncId} {args : Array Value} {w : World} {n : Nat} {v : Value}
    (h : Calls P f args (w.drewN n) fun e w' => e = .returned v ∧ ∃ t, w' = (w.drewN n).drewN t) : Calls P f args (w.drewN n) fun e w'' => e = .returned v ∧ ∃ m, w'' = w.drewN m :=
  h.mono fun _ _ ⟨he, t, ht⟩ => ⟨he, n + t, by rw [ht, drewN_add]⟩
theorem run_bytes {p r rest : List Nat} {a x j : Nat} (h : p.drop a = x :: (r ++ rest)) (hj : j < r.length) : p.getD (a + 1 + j) 0 = r.getD j 0 := by
  have e : (p.drop a).getD (1 + j) 0 = p.getD (a + 1 + j) 0 := by
    simp [List.getD_eq_getElem?_getD, Nat.add_assoc]
  rw [← e, h, Nat.add_comm 1 j]
  simp [List.getD_eq_getElem?_getD, List.getElem?_append_left hj]
theorem cut_get {b : List Nat} {i e j : Nat} (h : i + j < e) : (cut b i e).getD j 0 = b.getD (i + j) 0 := by
  simp [cut, List.getD_eq_getElem?_getD, h]
section
variable (w : World)
set_option maxRecDepth 100000 in
set_option maxHeartbeats 2000000 in
theorem greedy_walk (v : Value) (b : List Nat) (hv : Rb w w.heap.size v b) (hy : Bys b) (hl : b.length ≤ 140737488351232) :
    Calls Try.prog 8 #[v] w fun e w' => e = .returned (.bool true) ∧ Below w.heap.size w w' := by
  have HV := hide hv
  have HY := hide hy
  obtain ⟨ao, cap, rfl, hcap⟩ := hv.len
  obtain ⟨n, hn⟩ : ∃ n, b.length = n := ⟨_, rfl⟩
  have HLn := hide hn
  rw [hn] at hl HV hcap ⊢
  clear hv hy hn
  by_cases h6 : 600 < n
  · have h6I : (600 : Int) < (n : Int) := by omega
    go_enter Try.func8, Try.ntmps8
    go_wp2
    go_ret
    exact ⟨rfl, Below.refl _ _⟩
  have h6I : ¬ (600 : Int) < (n : Int) := by omega
  have hbl : b.length ≤ 65536 := by rw [HLn.out]; omega
  have HBl := hide hbl
  clear hbl
  go_enter Try.func8, Try.ntmps8
  go_wp2_with fail
  refine (Pack_ok w _ b HV.out HY.out HBl.out).mono ?_
  rintro e w1 ⟨r1, rfl, hO1, hb1⟩
  have HO1 := hide hO1
  have HB1 := hide hb1
  have HV1 := hide (HV.out.keep hb1)
  have hs1 := hb1.size
  obtain ⟨a1, k1, c1, rfl, HK1, hkc1⟩ := hO1.len2
  have hk4 : 4 ≤ k1 := by have := pkd_four b; rw [HK1.out] at this; exact this
  have hk7 : k1 ≤ 70000 := by have := pkd_small HBl.out; rw [HK1.out] at this; exact this
  obtain ⟨g1, rfl, hg1, hg1s⟩ := hO1.some_of (by rw [HK1.out]; omega)
  have q0 := (hO1.cell (j := 0) (by rw [HK1.out]; omega)).1
  have q1 := (hO1.cell (j := 1) (by rw [HK1.out]; omega)).1
  have q2 := (hO1.cell (j := 2) (by rw [HK1.out]; omega)).1
  have q3 := (hO1.cell (j := 3) (by rw [HK1.out]; omega)).1
  have e0 : (pkd b).getD 0 0 = n % 256 := by rw [← HLn.out]; rfl
  have e1 : (pkd b).getD 1 0 = n / 256 % 256 := by rw [← HLn.out]; rfl
  have e2 : (pkd b).getD 2 0 = 0 := by
    show b.length / 65536 % 256 = 0
    rw [HLn.out]; omega
  have e3 : (pkd b).getD 3 0 = 0 := by
    show b.length / 16777216 % 256 = 0
    rw [HLn.out]; omega
  rw [e0] at q0
  rw [e1] at q1
  rw [e2] at q2
  rw [e3] at q3
  obtain ⟨t0, ht0⟩ : ∃ t, n % 256 = t := ⟨_, rfl⟩
  obtain ⟨t1, ht1⟩ : ∃ t, n / 256 % 256 = t := ⟨_, rfl⟩
  rw [ht0] at q0
  rw [ht1] at q1
  have x0 : IntKind.i64.wrap (t0 : Int) = (t0 : Int) := wi _ (by omega) (by omega)
  have x1 : IntKind.i64.wrap (t1 : Int) = (t1 : Int) := wi _ (by omega) (by omega)
  obtain ⟨s1, hs1e⟩ : ∃ s, 256 * t1 = s := ⟨_, rfl⟩
  have x2 : IntKind.i64.wrap (256 * (t1 : Int)) = (s1 : Nat) := by rw [wi _ (by omega) (by omega)]; omega
  have x3 : IntKind.i64.wrap ((t0 : Int) + (s1 : Int)) = (n : Nat) := by rw [wi _ (by omega) (by omega)]; omega
  have b0 : t0 < 256 := by omega
  have b1 : t1 < 256 := by omega
  have i0 : (0 : Int) < k1 := by omega
  have i0n : 0 < k1 := by omega
  have i1 : (1 : Int) < k1 := by omega
  have i2 : (2 : Int) < k1 := by omega
  have i3 : (3 : Int) < k1 := by omega
  have h4I : decide ((k1 : Int) < 4) = false := by simp; omega
  clear hO1 hb1 HV e0 e1 e2 e3 ht0 ht1 hs1e
  go_upto_region 4 with fail
  go_quiet (fail)
  have HO2 : Hid (Ow (w1.drewN nq) w.heap.size (.slice (some ⟨g1, 0, none⟩) k1 c1) (pkd b)) := HO1
  have HB2 := hide (HB1.out.trans (drewN_below w1 _ nq))
  have HV2 : Hid (Rb (w1.drewN nq) w.heap.size (.slice ao n cap) b) := HV1
  have hs2 : w1.heap.size = (w1.drewN nq).heap.size := rfl
  have hg2s : g1 < (w1.drewN nq).heap.size := hg1s
  clear q0 q1 q2 q3 x0 x1 x2 x3 HO1 HB1 HV1 hs2 hg1s
  generalize w1.drewN nq = w2 at *
  have hs2 := HB2.out.size
  have HGr := hide (gr_all b)
  have HPk : Hid ((pkd b).drop 4 = encs (tks b 0 0)) := hide rfl
  have HPy := hide (pkd_bys HY.out)
  obtain ⟨TS, hTS⟩ : ∃ TS, tks b 0 0 = TS := ⟨_, rfl⟩
  have HTS := hide hTS
  rw [hTS] at HGr HPk
  clear hTS
  go_upto_region 10 with fail
  go_loopw [5, 6, 7, 8] (fun iv cv ov av wr => ∃ (i cn op a : Nat) (ts : List Tok), iv = .int .i64 (i : Nat) ∧ cv = .int .i64 (cn : Nat) ∧ ov = .int .i64 (op : Nat) ∧ av = .int .i64 (a : Nat) ∧ Hid (Gr b i op ts) ∧ Hid ((pkd b).drop a = encs ts) ∧ a ≤ k1 ∧ i ≤ n ∧ op ≤ 128 ∧ Hid (cn + ts.length = TS.length) ∧ cn ≤ a ∧ Below w2.heap.size w2 wr) (fun _ _ _ av _ => k1 - (intOf av).toNat)
  case atStart => exact ⟨0, 0, 0, 4, TS, rfl, rfl, rfl, rfl, HGr, HPk, hk4, Nat.zero_le _, Nat.zero_le _, hide (Nat.zero_add _), Nat.zero_le _, Below.refl _ _⟩
  case round =>
    obtain ⟨i, cn, op, a, ts, rfl, rfl, rfl, rfl, HG, HP, ha, hi, hop, HC, hca, hB⟩ := hrel
    have HB := hide hB
    have HOr := hide (HO2.out.keep hB (Nat.le_refl _))
    have HVr := hide (HV2.out.keep (hB.mono hs2))
    have hsr := Nat.le_trans hs2 hB.size
    have hsr2 := hB.size
    clear hB HGr HPk
    cases ts with
    | nil =>
      have hik : i = n := by rw [← HLn.out]; exact HG.out
      have hak : a = k1 := by
        have := congrArg List.length HP.out
        rw [List.length_drop, HK1.out] at this
        simp [encs] at this
        omega
      have hcT : cn = TS.length := by have := HC.out; simpa using this
      have HcT := hide hcT
      subst hik hak
      clear hcT
      go_wp2_with fail
      refine (Tokens_pkd wr _ b HOr.out.rb HY.out HBl.out).mono ?_
      rw [HTS.out, ← HcT.out]
      rintro e w3 ⟨rfl, hb3⟩
      have HB3 := hide (HB2.out.trans ((HB.out.trans (hb3.mono hsr2)).mono hs2))
      clear hb3
      go_wp2
      go_ret
      exact ⟨rfl, HB3.out⟩
    | cons t ts' =>
      have hok := gr_ok HBl.out HG.out
      have hlen : a + ((pcT t).2.2 + (encs ts').length) = k1 := by
        have := congrArg List.length HP.out
        rw [List.length_drop, HK1.out, encs_cons, List.length_append, enc_len] at this
        have := enc_pos t
        rw [enc_len] at this
        omega
      have hpos := enc_pos t
      rw [enc_len] at hpos
      have HP2 := hide (drop_enc HP.out)
      have HCn : Hid (cn + 1 + ts'.length = TS.length) := hide (by have := HC.out; simp at this; omega)
      have hrd := read_any wr _ (pkd b) a _ t (encs ts') HOr.out.rb HPy.out (by rw [HK1.out]; omega) (by rw [HP.out, encs_cons]) hok (by rw [HK1.out]; omega)
      have HRd := hide hrd
      have haI : (a : Int) < (k1 : Int) := by omega
      clear hrd HC
      go_wp2_with fail
      refine HRd.out.mono ?_
      clear HRd
      rintro e w3 ⟨rfl, hb3⟩
      have HB3 := hide (HB.out.trans (hb3.mono hsr2))
      have hs3 := HB3.out.size
      clear hb3 HB HOr HVr
      cases t with
      | inl r =>
        obtain ⟨h1, h2, h3, h4, h5, h6, h7⟩ := HG.out
        have hrp : 0 < r.length := List.length_pos_iff.2 h1
        have HG2 := hide h7
        have HCp := hide h6
        have HRc := hide h5
        have e1 : (pcT (.inl r)).1 = r.length := rfl
        have e2 : (pcT (.inl r)).2.1 = 0 := rfl
        have e3 : (pcT (.inl r)).2.2 = r.length + 1 := rfl
        rw [e3] at hlen hpos HP2
        rw [e1, e2, e3]
        have HPr : Hid ((pkd b).drop a = (r.length - 1) :: (r ++ encs ts')) := hide (by rw [HP.out, encs_cons]; rfl)
        obtain ⟨m, hm⟩ : ∃ m, r.length = m := ⟨_, rfl⟩
        have HRm := hide hm
        rw [hm] at hlen hpos HP2 h2 h4 hrp HG2 HCp ⊢
        rw [HLn.out] at h4
        unfold pcV
        obtain ⟨sz, hsz⟩ : ∃ s, m + 1 = s := ⟨_, rfl⟩
        have HSz := hide hsz
        rw [hsz] at hlen hpos HP2
        rw [hsz, show (((0 : Nat) : Nat) : Int) = 0 from rfl]
        have hszl : sz ≤ 129 := by omega
        have hms : m + 1 ≤ sz := by omega
        have hsz0 : ((sz : Int) == 0) = false := by simp; omega
        have hin : ¬ (n : Int) < (i : Int) + (m : Int) := by omega
        clear hm h1 h5 h6 h7 e1 e2 e3 HG HP hok hsz
        go_upto_region 12 with fail
        have hq := heap_alloc_last w3 (.cells #[.int .i64 (m : Nat), .int .i64 0, .int .i64 (sz : Nat)] 31)
        have HB4 := hide (HB3.out.alloc hs3 (.cells #[.int .i64 (m : Nat), .int .i64 0, .int .i64 (sz : Nat)] 31))
        generalize w3.alloc (.cells #[.int .i64 (m : Nat), .int .i64 0, .int .i64 (sz : Nat)] 31) = w4 at *
        have HQ := hide hq
        obtain ⟨z0, z1, z2⟩ := cells3 hq
        generalize w3.heap.size = g3 at *
        have hop2 : ¬ ((0 : Int) < (op : Int) ∧ (op : Int) < 128) := by omega
        clear hq HB3
        go_cut [88] (fun v wx => v = .bool false ∧ wx = w4)
        case first =>
          by_cases hop0 : 0 < op
          · have o1 : (0 : Int) < (op : Int) := by omega
            have o2 : ¬ (op : Int) < 128 := by omega
            go_wp2_with fail
            go_meet
            case rel => exact ⟨by rw [decide_eq_false (by omega)], rfl⟩
          · have o1 : ¬ (0 : Int) < (op : Int) := by omega
            go_wp2_with fail
            go_meet
            case rel => exact ⟨by rw [decide_eq_false (by omega)], rfl⟩
        case rest =>
        have hwc := hcut.2
        have hvc := hcut.1
        subst hvc
        rw [hwc]
        clear hcut hwc hop2
        go_upto_region 19 with fail
        clear z0 z1 z2
        go_loopw [11] (fun jv wr => ∃ j : Nat, jv = .int .i64 (j : Nat) ∧ j ≤ m ∧ Hid (wr.heap[g3]? = some (.cells #[.int .i64 (m : Nat), .int .i64 0, .int .i64 (sz : Nat)] 31 (0, 0))) ∧ Below w2.heap.size w2 wr) (fun jv _ => m - (intOf jv).toNat)
        case atStart => exact ⟨0, rfl, Nat.zero_le _, HQ, HB4.out⟩
        case round =>
          obtain ⟨j, rfl, hj, HQj, hBj⟩ := hrel
          obtain ⟨z0, z1, z2⟩ := cells3 HQj.out
          by_cases hjm : j < m
          · have hjI : (j : Int) < (m : Int) := by omega
            have HOj := hide (HO2.out.keep hBj (Nat.le_refl _))
            have HVj := hide (HV2.out.keep (hBj.mono hs2))
            obtain ⟨ya, eya⟩ : ∃ y, a + 1 = y := ⟨_, rfl⟩
            obtain ⟨y1, ey1⟩ : ∃ y, ya + j = y := ⟨_, rfl⟩
            obtain ⟨y2, ey2⟩ : ∃ y, i + j = y := ⟨_, rfl⟩
            have hpb : (pkd b).getD y1 0 = r.getD j 0 := by
              rw [← ey1, ← eya]
              have := HPr.out
              exact run_bytes this (by rw [HRm.out]; exact hjm)
            have hbb : b.getD y2 0 = r.getD j 0 := by
              rw [HRc.out, HRm.out, cut_get (by omega), ey2]
            have d1 := (HOj.out.cell (j := y1) (by rw [HK1.out]; omega)).1
            rw [hpb] at d1
            obtain ⟨x, rfl, _, hcx⟩ := HVj.out.some_of (by rw [HLn.out]; omega)
            have d2 := hcx y2 (by rw [HLn.out]; omega)
            rw [hbb] at d2
            have hgr : ∀ k, Calls Try.prog 17 #[.slice (some x) n cap, .int .i64 (y2 : Nat), .int .i64 0, .int .i64 0] (wr.drewN k) fun e w' => e = .returned (.bool true) ∧ ∃ t, w' = (wr.drewN k).drewN t := fun k =>
              greedy_none (wr.drewN k) _ b y2 w.heap.size HVj.out HBl.out (by rw [HLn.out]; omega) (by rw [← ey2]; exact HCp.out j hjm)
            have HGn := hide hgr
            have x1 : IntKind.i64.wrap ((a : Int) + 1) = (ya : Nat) := by rw [wi _ (by omega) (by omega)]; omega
            have x2 : IntKind.i64.wrap ((ya : Int) + (j : Int)) = (y1 : Nat) := by rw [wi _ (by omega) (by omega)]; omega
            have x3 : IntKind.i64.wrap ((i : Int) + (j : Int)) = (y2 : Nat) := by rw [wi _ (by omega) (by omega)]; omega
            have l1 : (y1 : Int) < (k1 : Int) := by omega
            have l2 : (y2 : Int) < (n : Int) := by omega
            generalize r.getD j 0 = cb at *
            have HBj := hide hBj
            clear hcx hpb hbb hgr ey1 ey2 eya hBj HOj HVj
            go_upto_region 21 with fail
            go_quiet (first | (go_at_call 17; refine quiet_of_draws (HGn.out _)))
            have HQ5 : Hid ((wr.drewN nq).heap[g3]? = some (.cells #[.int .i64 (m : Nat), .int .i64 0, .int .i64 (sz : Nat)] 31 (0, 0))) := HQj
            have HB5 := hide (HBj.out.trans (drewN_below wr _ nq))
            clear HBj HQj z0 z1 z2 d1 d2 HGn
            generalize wr.drewN nq = w5 at *
            go_wp2
            go_roundw
            case rel => exact ⟨j + 1, by go_num, by omega, HQ5, HB5.out⟩
            case measure => simp [intOf]; omega
          · obtain rfl : j = m := by omega
            have hjI : ¬ (j : Int) < (j : Int) := by omega
            have HBj := hide hBj
            have HG3 : Hid (Gr b (i + j) j ts') := HG2
            clear hBj HG2
            go_wp2
            refine ⟨⟨i + j, cn + 1, j, a + sz, ts', by go_num, by go_num, rfl, by go_num, HG3, HP2, by omega, by omega, by omega, HCn, by omega, HBj.out⟩, ?_⟩
            simp [intOf]; omega
      | inr c =>
        obtain ⟨h1, h2, h3, h7⟩ := HG.out
        obtain ⟨g4, g5, g6, g7⟩ := hok
        have hcn := Nat.le_trans (cp_le b i) (mst_le2 b i)
        obtain ⟨m, d⟩ := c
        rw [h2] at hcn
        simp only at h3 h7 g4 g5 g6 g7 hcn
        rw [HLn.out] at h1 hcn
        have HG2 := hide h7
        have HC2 := hide h2
        have e1 : (pcT (.inr (m, d))).1 = m := rfl
        have e2 : (pcT (.inr (m, d))).2.1 = d := rfl
        have e3 : (pcT (.inr (m, d))).2.2 = 3 := rfl
        rw [e3] at hlen hpos HP2
        rw [e1, e2, e3]
        unfold pcV
        rw [show (((3 : Nat) : Nat) : Int) = 3 from rfl]
        have hin : ¬ (n : Int) < (i : Int) + (m : Int) := by omega
        have hd0 : ((d : Int) == 0) = false := by simp; omega
        have hd1 : (0 : Int) < (d : Int) := by omega
        have hm0 : (0 : Int) < (m : Int) := by omega
        clear h2 h7 e1 e2 e3 HG HP h3
        go_upto_region 12 with fail
        have hq := heap_alloc_last w3 (.cells #[.int .i64 (m : Nat), .int .i64 (d : Nat), .int .i64 3] 31)
        have HB4 := hide (HB3.out.alloc hs3 (.cells #[.int .i64 (m : Nat), .int .i64 (d : Nat), .int .i64 3] 31))
        generalize w3.alloc (.cells #[.int .i64 (m : Nat), .int .i64 (d : Nat), .int .i64 3] 31) = w4 at *
        obtain ⟨z0, z1, z2⟩ := cells3 hq
        have HQ := hide hq
        have HV4 := hide (HV2.out.keep (HB4.out.mono hs2))
        generalize w3.heap.size = g3 at *
        clear hq HB3
        go_wp2_with fail
        refine (greedy_copy w4 _ b i m d _ HV4.out HBl.out (by rw [HLn.out]; exact h1) HC2.out (by omega)).mono ?_
        rintro e w5 ⟨rfl, tt, rfl⟩
        have HB5 := hide (HB4.out.trans (drewN_below w4 _ tt))
        have HQ5 : Hid ((w4.drewN tt).heap[g3]? = some (.cells #[.int .i64 (m : Nat), .int .i64 (d : Nat), .int .i64 3] 31 (0, 0))) := HQ
        clear z0 z1 z2 HB4 HQ HV4
        generalize w4.drewN tt = w5 at *
        obtain ⟨z0, z1, z2⟩ := cells3 HQ5.out
        go_upto_region 19 with fail
        clear z0 z1 z2
        go_loopw [11] (fun jv wr => jv = .int .i64 0 ∧ wr = w5) (fun _ _ => 0)
        case atStart => exact ⟨rfl, rfl⟩
        case round =>
          obtain ⟨rfl, rfl⟩ := hrel
          obtain ⟨z0, z1, z2⟩ := cells3 HQ5.out
          go_wp2
          refine ⟨⟨i + m, cn + 1, 0, a + 3, ts', by go_num, by go_num, rfl, by go_num, HG2, HP2, by omega, by omega, by omega, HCn, by omega, HB5.out⟩, ?_⟩
          simp [intOf]; omega
end
end Go.Proofs.Yteloomlcaimlaaa
