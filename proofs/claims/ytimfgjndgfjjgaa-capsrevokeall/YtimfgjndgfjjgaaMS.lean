import Derived.Deep.DeepCutAuto
import Derived.Test.YtimfgjndgfjjgaaMR
namespace Go.Proofs.Ytimfgjndgfjjgaa
open Go.RowKit Go.Shelf

theorem wpList_append_one {ops : Array Oper} {rest : List Oper} {o : Oper} {a : Act} {Q : Exit → Act → World → Prop} (hgd : o.guard = none) (s x : Operand) (hop : o.op = Op.call { callee := Callee.builtin Builtin.append, args := #[s, x], argTypes := #[29, 29] }) (w : World) (v : Value) (M : List (Nat × Nat)) (hp : PR w v M) (hs : a.eval s = v)
    (N : Nat) (p : Nat × Nat) (hN : w.heap[N]? = some (.cells #[.int .i64 (p.1 : Int), .int .i64 (p.2 : Int)] 28 (0, 0))) (hx : a.eval x = .slice (some ⟨N, 0, none⟩) 1 1) (hn : M.length ≤ 2000)
    (hK : ∀ v' w', PR w' v' (M ++ [p]) → (∀ g, v'.ownBlock = some g → v.ownBlock = some g ∨ w.heap.size ≤ g) → w.grownBy w' v.ownBlock → wpList Try.prog ops Q rest (a.put o.dst v') w') : wpList Try.prog ops Q (o :: rest) a w :=
  wpList_plain hgd fun _ hK' => wp_append_one s x hop w v M hp hs N p hN hx hn (fun v' w' h1 h2 h3 => hK' _ _ (hK v' w' h1 h2 h3))
/-- the marks begin -/
theorem rs_begin {w w5 w8 : World} {B Mb Wb t : Nat} {F : Nat → Prop} {bk : List (Option Lst)} {v8 : Value} {ob : Obj} (hB : Book w5 F B bk) (hI : MInv bk [(2, t)]) (hop : (look bk 1).isSome = true) (hM : w5.heap[Mb]? = some (.cells #[.slice none 0 0] 65 (0, 0))) (hlo : Wb + 1 ≤ Mb) (hnM : ¬ F Mb) (hW : w5.heap[Wb]? = some (.cells #[.int .i64 1, .int .i64 40] 28 (0, 0))) (hnW : ¬ F Wb) (hwlo : w.heap.size ≤ Wb) (hFl : ∀ b, F b → w.heap.size ≤ b) (hb : Below w.heap.size w w5)
    (hp8 : PR w8 v8 ([] ++ [(2, t)])) (hg8 : ∀ g, v8.ownBlock = some g → (Value.slice none 0 0).ownBlock = some g ∨ (w5.alloc ob).heap.size ≤ g) (hgr8 : (w5.alloc ob).grownBy w8 (Value.slice none 0 0).ownBlock) : RsAt w (w8.setCell ⟨Mb, 0, none⟩ v8) B Mb Wb F bk v8 [(2, t)] := by
  have hMl : Mb < w5.heap.size := (Array.getElem?_eq_some_iff.1 hM).1
  have hms : Ms (Wb + 1) w5 F Mb (.slice none 0 0) [] := ⟨hM, .inl ⟨rfl, rfl⟩, hlo, hnM, fun g hg => by cases hg⟩
  have hfr : Fr w5 F Mb (.slice none 0 0) w5 F := ⟨⟨rfl, rfl, rfl, Nat.le_refl _, fun _ _ _ => rfl⟩, fun b hb => .inl hb⟩
  obtain ⟨q1, q2, q3⟩ := fol_push hB hms (by omega) hfr ob hp8 hg8 hgr8
  have hn : ∀ b, (F b ∨ b = Mb ∨ (Value.slice none 0 0).ownBlock = some b) → w.heap.size ≤ b := by
    rintro b (e | e | e)
    · exact hFl b e
    · omega
    · cases e
  refine ⟨q1, hI.snd, fun _ => hI, hop, q2, (q3.mod.block Wb (Array.getElem?_eq_some_iff.1 hW).1 ?_).trans hW, hnW, hwlo, hFl, hb.trans (q3.mod.below hn hb.size)⟩
  rintro (e | e | e)
  · exact hnW e
  · omega
  · cases e
set_option maxRecDepth 16000 in
set_option maxHeartbeats 16000000 in
theorem revokeAll_walk (a1 : Option Addr) (len1 cap1 : Nat) (O1 : Nat → Ov) (a2 : Option Addr) (len2 cap2 : Nat) (O2 : Nat → Ov) (w : World) (hO1 : IsOps w a1 len1 O1) (hO2 : IsOps w a2 len2 O2) :
    Calls Try.prog 8 #[.slice a1 len1 cap1, .slice a2 len2 cap2] w fun e w' => e = .returned (.bool true) ∧ Below w.heap.size w w' := by
  have HO1 := hide hO1
  have HO2 := hide hO2
  clear hO1 hO2
  go_enter Try.func8, Try.ntmps8
  go_wp2_with fail
  refine (begun_any w 1 5 7 15 ⟨by omega, by omega, by omega, by omega, by omega, by omega, by omega, by omega⟩).mono ?_
  rintro e w1 ⟨B, F, bk, rfl, h1, h2, h3, h4⟩
  have HSg : Hid (Sg Rt0 w w1 B) := hide ⟨F, bk, _, h1, begun_rt0 h4, h4.snd ⟨by omega, by omega⟩, h2, h3⟩
  clear h1 h2 h3 h4
  go_wp2_with fail
  go_loopw [6] (fun x wr => ∃ k : Nat, k ≤ len1 ∧ k ≤ 1024 ∧ x = .int .i64 (k : Int) ∧ Hid (Sg Rt0 w wr B)) (fun x _ => 1024 - (intOf x).toNat)
  case atStart => exact ⟨0, by omega, by omega, rfl, HSg⟩
  case round =>
  clear HSg
  obtain ⟨k, hk, hk2, rfl, K1⟩ := hrel
  by_cases hgo : k < len1 ∧ k < 1024
  · obtain ⟨hlt, hlt2⟩ := hgo
    have hd1 : decide ((k : Int) < (len1 : Int)) = true := by simp; omega
    have hd2 : decide ((k : Int) < 1024) = true := by simp; omega
    obtain ⟨x, rfl, hx⟩ := HO1.out.below K1.out.bel k hlt
    generalize O1 k = o at *
    have hkl : k * 12 + 11 < len1 * 12 := by omega
    have q1 : wr.cell? ⟨(x.add (k * 12)).block, (x.add (k * 12)).off + 1, none⟩ = some (.int .i64 o.o.q) := hx 1 _ rfl
    by_cases h4 : o.o.q = 4
    · rw [h4] at q1
      go_wp2_with (refine loadOp ?lwA _ rfl (x.add (k * 12)) ?lxA o ?lcA ?_)
      try (case lxA => rfl)
      case lcA => exact hx
      clear hx hkl q1
      refine (K1.out.play o (fun _ _ _ _ t2 t3 t4 => rt0_step t2 t3 t4 (.inl h4))).mono ?_
      rintro e w4 ⟨rfl, hS5⟩
      have HS5 := hide hS5
      clear hS5 K1
      go_wp2
      go_roundw
      case rel =>
        first
          | exact ⟨k + 1, by omega, by omega, by go_num, HS5⟩
          | ((repeat apply Exists.intro); refine ⟨?_, rfl⟩; exact ⟨k + 1, by omega, by omega, by go_num, HS5⟩)
      case measure => simp [intOf]; omega
    · by_cases h3 : o.o.q = 3
      · rw [h3] at q1
        go_wp2_with (refine loadOp ?lwB _ rfl (x.add (k * 12)) ?lxB o ?lcB ?_)
        try (case lxB => rfl)
        case lcB => exact hx
        clear hx hkl q1
        refine (K1.out.play o (fun _ _ _ _ t2 t3 t4 => rt0_step t2 t3 t4 (.inr h3))).mono ?_
        rintro e w4 ⟨rfl, hS5⟩
        have HS5 := hide hS5
        clear hS5 K1
        go_wp2
        go_roundw
        case rel =>
          first
            | exact ⟨k + 1, by omega, by omega, by go_num, HS5⟩
            | ((repeat apply Exists.intro); refine ⟨?_, rfl⟩; exact ⟨k + 1, by omega, by omega, by go_num, HS5⟩)
        case measure => simp [intOf]; omega
      · generalize o.o.q = oq at *
        have hb4 : (oq == 4) = false := by simp [h4]
        have hb3 : (oq == 3) = false := by simp [h3]
        clear hx
        go_wp2
        go_roundw
        case rel =>
          first
            | exact ⟨k + 1, by omega, by omega, by go_num, K1⟩
            | ((repeat apply Exists.intro); refine ⟨?_, rfl⟩; exact ⟨k + 1, by omega, by omega, by go_num, K1⟩)
        case measure => simp [intOf]; omega
  go_upto_region 5 with fail
  go_cut [34] (fun v wx => v = .bool false ∧ wx = wr)
  case first =>
    by_cases hlq : k < len1
    · have hkli : (k : Int) < (len1 : Int) := by omega
      have hk1024 : ¬ (k : Int) < 1024 := by omega
      go_wp2_with fail
      go_meet
      case rel => exact ⟨rfl, rfl⟩
    · have hkli : ¬ (k : Int) < (len1 : Int) := by omega
      go_wp2_with fail
      go_meet
      case rel => exact ⟨rfl, rfl⟩
  case rest =>
  have hwc := hcut.2
  have hvc := hcut.1
  subst hvc
  rw [hwc]
  clear hcut hwc
  have hbK := (Below.refl wr.heap.size wr).alloc (Nat.le_refl _) (.cells #[.int .i64 1, .int .i64 40] 28)
  have hW0 := heap_alloc_new wr (.cells #[.int .i64 1, .int .i64 40] 28)
  obtain ⟨F1, bk1, f1, hS0⟩ := K1.out
  have HS1 := hide (hS0.turn (hS0.book.below hbK) (Ext.of_below hbK) hS0.inv hS0.snd)
  have HWlo : Hid (w.heap.size ≤ wr.heap.size) := hide hS0.bel.size
  have HNW : Hid (¬ F1 wr.heap.size) := hide fun hf => by have := hS0.book.lt _ hf; omega
  clear hbK K1 hS0
  go_upto_region 10 with fail
  generalize wr.alloc (.cells #[.int .i64 1, .int .i64 40] 28) = w2 at *
  generalize wr.heap.size = Wb at *
  go_wp2_with fail
  refine (derive_any w2 F1 B bk1 HS1.out.book 0 0 1 40 15).mono ?_
  rintro e w3 ⟨v3, c3, bk3, F3, rfl, h1, h2, h3⟩
  have HW3 := hide ((h2.mod.block Wb (Array.getElem?_eq_some_iff.1 hW0).1 HNW.out).trans hW0)
  have HNW3 : Hid (¬ F3 Wb) := hide fun hf => by
    rcases h2.new Wb hf with e | e
    · exact HNW.out e
    · have := (Array.getElem?_eq_some_iff.1 hW0).1; omega
  have HB3 : Hid (Below w.heap.size w w3) := hide (HS1.out.bel.trans (h2.mod.below HS1.out.lo HS1.out.bel.size))
  rcases first_derive HS1.out.inv HS1.out.snd (fun i l hl => HS1.out.book.l48 hl) h3 with rfl | ⟨rfl, rfl, hr3, ⟨f3, hs3⟩, hw3, hno3⟩
  · clear h1 h2 h3 hW0 HS1
    go_wp2
    go_ret
    exact ⟨rfl, HB3.out⟩
  have HS3 : Hid (SgAt Rt0 w w3 B F3 bk3 f3) := hide (HS1.out.turn h1 h2 hr3 hs3)
  have HNo := hide (And.intro hw3 hno3)
  clear h1 h2 h3 hr3 hs3 hw3 hno3 HS1 hW0 HNW HB3
  go_wp2_with fail
  refine (derive_any w3 F3 B bk3 HS3.out.book 1 40 2 (-1) 7).mono ?_
  rintro e w4 ⟨v4, c4, bk4, F4, rfl, h1, h2, h3⟩
  have HW4 := hide ((h2.mod.block Wb (Array.getElem?_eq_some_iff.1 HW3.out).1 HNW3.out).trans HW3.out)
  have HNW4 : Hid (¬ F4 Wb) := hide fun hf => by
    rcases h2.new Wb hf with e | e
    · exact HNW3.out e
    · have := (Array.getElem?_eq_some_iff.1 HW3.out).1; omega
  have HB4 : Hid (Below w.heap.size w w4) := hide (HS3.out.bel.trans (h2.mod.below HS3.out.lo HS3.out.bel.size))
  rcases second_derive HS3.out.inv HS3.out.snd (fun i l hl => HS3.out.book.l48 hl) HNo.out.1 HNo.out.2 h3 with rfl | ⟨rfl, t, rfl, hI4, hop4, hwt4⟩
  · clear h1 h2 h3 HS3
    go_wp2
    go_ret
    exact ⟨rfl, HB4.out⟩
  have HK4 := hide h1
  have HI4 := hide (And.intro hI4 (And.intro hop4 hwt4))
  have HL4 : Hid (∀ b, F4 b → w.heap.size ≤ b) := hide fun b hb => by
    rcases h2.new b hb with e | e
    · exact HS3.out.lo b e
    · exact Nat.le_trans HS3.out.bel.size e
  clear h1 h2 h3 hI4 hop4 hwt4 HS3 HNo HNW3 HW3
  go_upto_region 20 with fail
  have hbM := (Below.refl w4.heap.size w4).alloc (Nat.le_refl _) (.cells #[.slice none 0 0] 65)
  have hM5 := heap_alloc_new w4 (.cells #[.slice none 0 0] 65)
  have HK5 := hide (HK4.out.below hbM)
  have HW5 := hide ((hbM.block Wb (Array.getElem?_eq_some_iff.1 HW4.out).1).trans HW4.out)
  have HB5 := hide (HB4.out.trans (hbM.mono HB4.out.size))
  have HMlo : Hid (Wb + 1 ≤ w4.heap.size) := hide ((Array.getElem?_eq_some_iff.1 HW4.out).1)
  have HNM : Hid (¬ F4 w4.heap.size) := hide fun hf => by have := HK4.out.lt _ hf; omega
  clear hbM HK4 HW4 HB4
  go_upto_region 21 with fail
  generalize w4.alloc (.cells #[.slice none 0 0] 65) = w5 at *
  generalize w4.heap.size = Mb at *
  have hmc : w5.cell? ⟨Mb, 0, none⟩ = some (.slice none 0 0) := by rw [cell_of_row _ _ _ _ _ _ hM5]; rfl
  have hMlt : Mb < w5.heap.size := (Array.getElem?_eq_some_iff.1 hM5).1
  have HM5 := hide hM5
  have HNw : Hid ((w5.alloc (.cells #[.int .i64 2, .int .i64 (t : Int)] 28)).heap[w5.heap.size]? = some (.cells #[.int .i64 (((2, t) : Nat × Nat).1 : Int), .int .i64 (((2, t) : Nat × Nat).2 : Int)] 28 (0, 0))) := hide (heap_alloc_new w5 _)
  clear hM5
  go_upto_region 22 with (at_builtin; refine wpList_append_one rfl _ _ rfl (w5.alloc (.cells #[.int .i64 2, .int .i64 (t : Int)] 28)) (.slice none 0 0) [] (.inl ⟨rfl, rfl⟩) rfl w5.heap.size (2, t) HNw.out rfl (by simp) ?_; intro v8 w8 hp8 hg8 hgr8; (have hm8 : w8.heap[Mb]? = some (.cells #[.slice none 0 0] 65 (0, 0)) := (hgr8.block Mb (by simp; omega) (by simp [Value.ownBlock])).trans ((Below.heap_alloc _ _ _ hMlt).trans HM5.out)); (have m0 : w8.cell? ⟨Mb, 0, none⟩ = some (.slice none 0 0) := by rw [cell_of_row _ _ _ _ _ _ hm8]; rfl); (have mf : w8.frozen? ⟨Mb, 0, none⟩ = false := frozen_of_row _ _ _ _ _ hm8); (have HRs := hide (rs_begin HK5.out HI4.out.1 HI4.out.2.1 HM5.out HMlo.out HNM.out HW5.out HNW4.out HWlo.out HL4.out HB5.out hp8 hg8 hgr8)); obtain ⟨a8, c8, rfl⟩ := hp8.len; clear hm8 hp8 hg8 hgr8)
  have HR0 : Hid (∃ F bk v M, RsAt w (w8.setCell ⟨Mb, 0, none⟩ (.slice a8 1 c8)) B Mb Wb F bk v M ∧ (∃ r, atB bk 1 40 = some r) ∧ M.length ≤ 1 + 0) := hide ⟨_, _, _, _, HRs.out, HI4.out.2.2, by simp⟩
  clear HRs HI4 HK5 HW5 HB5 HMlo HNM HL4 HNW4 hmc m0 mf hMlt HM5 HNw HWlo
  go_wp2_with fail
  go_loopw [12] (fun x wr => ∃ j : Nat, j ≤ len2 ∧ j ≤ 1024 ∧ x = .int .i64 (j : Int) ∧ Hid (∃ F bk v M, RsAt w wr B Mb Wb F bk v M ∧ (∃ r, atB bk 1 40 = some r) ∧ M.length ≤ 1 + j)) (fun x _ => 1024 - (intOf x).toNat)
  case atStart => exact ⟨0, by omega, by omega, rfl, HR0⟩
  case round =>
  clear HR0
  obtain ⟨j, hj, hj2, rfl, K2⟩ := hrel
  by_cases hgo2 : j < len2 ∧ j < 1024
  · obtain ⟨hlt3, hlt4⟩ := hgo2
    have hd3 : decide ((j : Int) < (len2 : Int)) = true := by simp; omega
    have hd4 : decide ((j : Int) < 1024) = true := by simp; omega
    obtain ⟨F9, bk9, v9, M9, hR9, hW9, hL9⟩ := K2.out
    obtain ⟨x, rfl, hx⟩ := HO2.out.below hR9.bel j hlt3
    have HR3 := hide (hR9.below (freshO_below wr (O2 j)))
    have HWat := hide hW9
    have hob := freshO_ob wr (O2 j)
    generalize O2 j = o at *
    have hz : Ob (wr.alloc (.cells Ov.nil.cells.toArray 49)) wr.heap.size Ov.nil := Ob.new _ _
    have hkl : j * 12 + 11 < len2 * 12 := by omega
    clear hR9 hW9 K2
    go_upto_region 26 with (first | refine loadOp ?pwA _ rfl (x.add (j * 12)) ?pxA o ?pcA ?_ | refine storeOp ?puA _ _ rfl wr.heap.size o Ov.nil ?pvA ?pyA ?pzA ?_)
    case pxA => rfl
    case pcA => exact hx
    case pvA => rfl
    case pyA => rfl
    case pzA => exact hz
    show Code.wp _ _ _ _ (freshO wr o)
    clear hz hx hkl hd3 hd4
    have c1 := hob.get (j := 1) rfl
    have c2 := hob.get (j := 2) rfl
    have c3 := hob.get (j := 3) rfl
    obtain ⟨x0, x1, -, -⟩ := blk2 HR3.out.wb
    generalize freshO wr o = w10 at *
    generalize wr.heap.size = N at *
    by_cases h7 : o.o.q = 7
    · rw [h7] at c1
      have HRn : Hid (∃ F bk v M, RsAt w w10 B Mb Wb F bk v M ∧ (∃ r, atB bk 1 40 = some r) ∧ M.length ≤ 1 + (j + 1)) := hide ⟨_, _, _, _, HR3.out, HWat.out, by omega⟩
      clear HR3 HWat hob x0 x1
      go_wp2
      go_roundw
      case rel =>
        first
          | exact ⟨j + 1, by omega, by omega, by go_num, HRn⟩
          | ((repeat apply Exists.intro); refine ⟨?_, rfl⟩; exact ⟨j + 1, by omega, by omega, by go_num, HRn⟩)
      case measure => simp [intOf]; omega
    by_cases h5 : o.o.q = 5
    · rw [h5] at c1
      by_cases he : o.o.e = 1
      · rw [he] at c2
        by_cases hs : o.o.s = 40
        · rw [hs] at c3
          have HRn : Hid (∃ F bk v M, RsAt w w10 B Mb Wb F bk v M ∧ (∃ r, atB bk 1 40 = some r) ∧ M.length ≤ 1 + (j + 1)) := hide ⟨_, _, _, _, HR3.out, HWat.out, by omega⟩
          clear HR3 HWat hob x0 x1
          go_wp2
          go_roundw
          case rel =>
            first
              | exact ⟨j + 1, by omega, by omega, by go_num, HRn⟩
              | ((repeat apply Exists.intro); refine ⟨?_, rfl⟩; exact ⟨j + 1, by omega, by omega, by go_num, HRn⟩)
          case measure => simp [intOf]; omega
        · have hbs : (o.o.s == 40) = false := by simp [hs]
          go_upto_region 27 with fail
          go_wp2_with (refine loadOp ?lwF1A _ rfl ⟨N, 0, none⟩ ?lxF1A o ?lcF1A ?_)
          try (case lxF1A => rfl)
          case lcF1A => exact fun j v hv => by first | exact hob.get hv | (rw [add0]; exact hob.get hv)
          refine (HR3.out.follow HWat.out (by omega) o h7 (fun h => hs h.2.2) (fun h => by omega)).mono ?_
          rintro e w11 ⟨rfl, F', bk', v', M', hR', hlen'⟩
          have HR' := hide hR'
          have hop' := hR'.opn
          clear hR' hob c1 c2 c3 x0 x1 HR3 HWat
          go_wp2_with fail
          refine (get_any w11 F' B bk' HR'.out.book 1 40).mono ?_
          rintro e w12 ⟨rfl, hb12⟩
          rcases Option.eq_none_or_eq_some (atB bk' 1 40) with hat | ⟨r, hat⟩
          · have hlc : lcode bk' 1 40 = 80 := by
              unfold lcode
              rw [hat]
              cases hq : look bk' 1 with
              | none => rw [hq] at hop'; cases hop'
              | some l => rfl
            have HB9 := hide ((HR'.out.below hb12).bel.alloc (HR'.out.below hb12).bel.size (.cells #[.int .i64 0, .int .i64 0, .int .i64 0, .int .i64 0] 26))
            rw [hlc, hat]
            simp only [Option.getD_none, Rc.cap, Rc.zero]
            clear hlc hat hb12 HR' hop'
            go_wp2
            go_ret
            exact ⟨rfl, HB9.out⟩
          · rw [lcode_some hat, hat]
            simp only [Option.getD_some, Rc.cap]
            have HRn : Hid (∃ F bk v M, RsAt w (w12.alloc (.cells #[.int .i64 r.k, .int .i64 r.o, .int .i64 r.s, .int .i64 r.r] 26)) B Mb Wb F bk v M ∧ (∃ r, atB bk 1 40 = some r) ∧ M.length ≤ 1 + (j + 1)) := hide ⟨F', bk', v', M', HR'.out.below (hb12.alloc hb12.size _), ⟨r, hat⟩, by omega⟩
            clear hat hb12 HR' hop' hlen'
            go_wp2
            go_roundw
            case rel =>
              first
                | exact ⟨j + 1, by omega, by omega, by go_num, HRn⟩
                | ((repeat apply Exists.intro); refine ⟨?_, rfl⟩; exact ⟨j + 1, by omega, by omega, by go_num, HRn⟩)
            case measure => simp [intOf]; omega
      · have hbe : (o.o.e == 1) = false := by simp [he]
        go_upto_region 27 with fail
        go_wp2_with (refine loadOp ?lwF2A _ rfl ⟨N, 0, none⟩ ?lxF2A o ?lcF2A ?_)
        try (case lxF2A => rfl)
        case lcF2A => exact fun j v hv => by first | exact hob.get hv | (rw [add0]; exact hob.get hv)
        refine (HR3.out.follow HWat.out (by omega) o h7 (fun h => he h.2.1) (fun h => by omega)).mono ?_
        rintro e w11 ⟨rfl, F', bk', v', M', hR', hlen'⟩
        have HR' := hide hR'
        have hop' := hR'.opn
        clear hR' hob c1 c2 c3 x0 x1 HR3 HWat
        go_wp2_with fail
        refine (get_any w11 F' B bk' HR'.out.book 1 40).mono ?_
        rintro e w12 ⟨rfl, hb12⟩
        rcases Option.eq_none_or_eq_some (atB bk' 1 40) with hat | ⟨r, hat⟩
        · have hlc : lcode bk' 1 40 = 80 := by
            unfold lcode
            rw [hat]
            cases hq : look bk' 1 with
            | none => rw [hq] at hop'; cases hop'
            | some l => rfl
          have HB9 := hide ((HR'.out.below hb12).bel.alloc (HR'.out.below hb12).bel.size (.cells #[.int .i64 0, .int .i64 0, .int .i64 0, .int .i64 0] 26))
          rw [hlc, hat]
          simp only [Option.getD_none, Rc.cap, Rc.zero]
          clear hlc hat hb12 HR' hop'
          go_wp2
          go_ret
          exact ⟨rfl, HB9.out⟩
        · rw [lcode_some hat, hat]
          simp only [Option.getD_some, Rc.cap]
          have HRn : Hid (∃ F bk v M, RsAt w (w12.alloc (.cells #[.int .i64 r.k, .int .i64 r.o, .int .i64 r.s, .int .i64 r.r] 26)) B Mb Wb F bk v M ∧ (∃ r, atB bk 1 40 = some r) ∧ M.length ≤ 1 + (j + 1)) := hide ⟨F', bk', v', M', HR'.out.below (hb12.alloc hb12.size _), ⟨r, hat⟩, by omega⟩
          clear hat hb12 HR' hop' hlen'
          go_wp2
          go_roundw
          case rel =>
            first
              | exact ⟨j + 1, by omega, by omega, by go_num, HRn⟩
              | ((repeat apply Exists.intro); refine ⟨?_, rfl⟩; exact ⟨j + 1, by omega, by omega, by go_num, HRn⟩)
          case measure => simp [intOf]; omega
    by_cases h2 : o.o.q = 2
    · rw [h2] at c1
      by_cases he : o.o.e = 1
      · rw [he] at c2
        have HRn : Hid (∃ F bk v M, RsAt w w10 B Mb Wb F bk v M ∧ (∃ r, atB bk 1 40 = some r) ∧ M.length ≤ 1 + (j + 1)) := hide ⟨_, _, _, _, HR3.out, HWat.out, by omega⟩
        clear HR3 HWat hob x0 x1
        go_wp2
        go_roundw
        case rel =>
          first
            | exact ⟨j + 1, by omega, by omega, by go_num, HRn⟩
            | ((repeat apply Exists.intro); refine ⟨?_, rfl⟩; exact ⟨j + 1, by omega, by omega, by go_num, HRn⟩)
        case measure => simp [intOf]; omega
      · have hbe : (o.o.e == 1) = false := by simp [he]
        go_upto_region 27 with fail
        go_wp2_with (refine loadOp ?lwF3A _ rfl ⟨N, 0, none⟩ ?lxF3A o ?lcF3A ?_)
        try (case lxF3A => rfl)
        case lcF3A => exact fun j v hv => by first | exact hob.get hv | (rw [add0]; exact hob.get hv)
        refine (HR3.out.follow HWat.out (by omega) o h7 (fun h => by omega) (fun h => he h.2)).mono ?_
        rintro e w11 ⟨rfl, F', bk', v', M', hR', hlen'⟩
        have HR' := hide hR'
        have hop' := hR'.opn
        clear hR' hob c1 c2 c3 x0 x1 HR3 HWat
        go_wp2_with fail
        refine (get_any w11 F' B bk' HR'.out.book 1 40).mono ?_
        rintro e w12 ⟨rfl, hb12⟩
        rcases Option.eq_none_or_eq_some (atB bk' 1 40) with hat | ⟨r, hat⟩
        · have hlc : lcode bk' 1 40 = 80 := by
            unfold lcode
            rw [hat]
            cases hq : look bk' 1 with
            | none => rw [hq] at hop'; cases hop'
            | some l => rfl
          have HB9 := hide ((HR'.out.below hb12).bel.alloc (HR'.out.below hb12).bel.size (.cells #[.int .i64 0, .int .i64 0, .int .i64 0, .int .i64 0] 26))
          rw [hlc, hat]
          simp only [Option.getD_none, Rc.cap, Rc.zero]
          clear hlc hat hb12 HR' hop'
          go_wp2
          go_ret
          exact ⟨rfl, HB9.out⟩
        · rw [lcode_some hat, hat]
          simp only [Option.getD_some, Rc.cap]
          have HRn : Hid (∃ F bk v M, RsAt w (w12.alloc (.cells #[.int .i64 r.k, .int .i64 r.o, .int .i64 r.s, .int .i64 r.r] 26)) B Mb Wb F bk v M ∧ (∃ r, atB bk 1 40 = some r) ∧ M.length ≤ 1 + (j + 1)) := hide ⟨F', bk', v', M', HR'.out.below (hb12.alloc hb12.size _), ⟨r, hat⟩, by omega⟩
          clear hat hb12 HR' hop' hlen'
          go_wp2
          go_roundw
          case rel =>
            first
              | exact ⟨j + 1, by omega, by omega, by go_num, HRn⟩
              | ((repeat apply Exists.intro); refine ⟨?_, rfl⟩; exact ⟨j + 1, by omega, by omega, by go_num, HRn⟩)
          case measure => simp [intOf]; omega
    have hb7 : (o.o.q == 7) = false := by simp [h7]
    have hb5 : (o.o.q == 5) = false := by simp [h5]
    have hb2 : (o.o.q == 2) = false := by simp [h2]
    go_upto_region 27 with fail
    go_wp2_with (refine loadOp ?lwF4A _ rfl ⟨N, 0, none⟩ ?lxF4A o ?lcF4A ?_)
    try (case lxF4A => rfl)
    case lcF4A => exact fun j v hv => by first | exact hob.get hv | (rw [add0]; exact hob.get hv)
    refine (HR3.out.follow HWat.out (by omega) o h7 (fun h => h5 h.1) (fun h => h2 h.1)).mono ?_
    rintro e w11 ⟨rfl, F', bk', v', M', hR', hlen'⟩
    have HR' := hide hR'
    have hop' := hR'.opn
    clear hR' hob c1 c2 c3 x0 x1 HR3 HWat
    go_wp2_with fail
    refine (get_any w11 F' B bk' HR'.out.book 1 40).mono ?_
    rintro e w12 ⟨rfl, hb12⟩
    rcases Option.eq_none_or_eq_some (atB bk' 1 40) with hat | ⟨r, hat⟩
    · have hlc : lcode bk' 1 40 = 80 := by
        unfold lcode
        rw [hat]
        cases hq : look bk' 1 with
        | none => rw [hq] at hop'; cases hop'
        | some l => rfl
      have HB9 := hide ((HR'.out.below hb12).bel.alloc (HR'.out.below hb12).bel.size (.cells #[.int .i64 0, .int .i64 0, .int .i64 0, .int .i64 0] 26))
      rw [hlc, hat]
      simp only [Option.getD_none, Rc.cap, Rc.zero]
      clear hlc hat hb12 HR' hop'
      go_wp2
      go_ret
      exact ⟨rfl, HB9.out⟩
    · rw [lcode_some hat, hat]
      simp only [Option.getD_some, Rc.cap]
      have HRn : Hid (∃ F bk v M, RsAt w (w12.alloc (.cells #[.int .i64 r.k, .int .i64 r.o, .int .i64 r.s, .int .i64 r.r] 26)) B Mb Wb F bk v M ∧ (∃ r, atB bk 1 40 = some r) ∧ M.length ≤ 1 + (j + 1)) := hide ⟨F', bk', v', M', HR'.out.below (hb12.alloc hb12.size _), ⟨r, hat⟩, by omega⟩
      clear hat hb12 HR' hop' hlen'
      go_wp2
      go_roundw
      case rel =>
        first
          | exact ⟨j + 1, by omega, by omega, by go_num, HRn⟩
          | ((repeat apply Exists.intro); refine ⟨?_, rfl⟩; exact ⟨j + 1, by omega, by omega, by go_num, HRn⟩)
      case measure => simp [intOf]; omega
  go_upto_region 23 with fail
  go_cut [100] (fun v wx => v = .bool false ∧ wx = wr)
  case first =>
    by_cases hlq : j < len2
    · have hkli : (j : Int) < (len2 : Int) := by omega
      have hk1024 : ¬ (j : Int) < 1024 := by omega
      go_wp2_with fail
      go_meet
      case rel => exact ⟨rfl, rfl⟩
    · have hkli : ¬ (j : Int) < (len2 : Int) := by omega
      go_wp2_with fail
      go_meet
      case rel => exact ⟨rfl, rfl⟩
  case rest =>
  have hwc := hcut.2
  have hvc := hcut.1
  subst hvc
  rw [hwc]
  clear hcut hwc
  obtain ⟨F9, bk9, v9, M9, hR9, hW9, hL9⟩ := K2.out
  have HR9 := hide hR9
  have HW9 := hide hW9
  clear hR9 hW9 K2
  go_wp2_with fail
  refine (all_any wr F9 B bk9 HR9.out.book).mono ?_
  rintro e w6 ⟨vB, rfl, hrowB, hb6⟩
  have HR6 := hide (HR9.out.below hb6)
  have hHB := HeldAt.of_row hrowB
  have HBn : Hid (∀ g, vB.ownBlock = some g → ¬ F9 g) := hide fun g hg hf => by
    have := (hrowB.lt g hg).1
    have := HR9.out.book.lt g hf
    omega
  have hLB := hl_len HR9.out.book 16
  clear hrowB hb6 HR9
  obtain ⟨LB, hLB'⟩ : ∃ L, (hl bk9 16).length = L := ⟨_, rfl⟩
  obtain ⟨aB, cB, hvB⟩ : ∃ a c, vB = .slice a LB c := by
    obtain ⟨a, c, h, _⟩ := hHB
    exact ⟨a, c, by rw [← hLB']; exact h⟩
  rw [hLB'] at hLB
  subst hvB
  have HHB := hide hHB
  have HLB := hide hLB'
  clear hHB hLB'
  go_wp2_with fail
  refine (HR6.out.revoke HW9.out).mono ?_
  rintro e w7 ⟨vg, ps, rfl, hRv⟩
  obtain ⟨LG, hLG⟩ : ∃ L, ps.length = L := ⟨_, rfl⟩
  obtain ⟨ag, cg, hvg⟩ : ∃ a c, vg = .slice a LG c := by
    obtain ⟨a, c, h, _⟩ := hRv.held
    exact ⟨a, c, by rw [← hLG, ← heldOf_len bk9 ps]; exact h⟩
  obtain ⟨a9, c9, hv9⟩ : ∃ a c, v9 = .slice a LG c := by
    obtain ⟨a, c, h⟩ := hRv.pr.len
    exact ⟨a, c, by rw [← hLG, hRv.len]; exact h⟩
  subst hvg
  subst hv9
  have HHB7 := hide (hRv.before HHB.out HBn.out)
  have hle := hRv.le
  rw [hLG] at hle
  have hlenA := hRv.hlen
  rw [hLG, HLB.out] at hlenA
  have HRv := hide hRv
  have HB16 : Hid (bk9.length = 16) := hide HR6.out.book.blen
  have HLG := hide hLG
  have hmc : w7.cell? ⟨Mb, 0, none⟩ = some (.slice a9 LG c9) := by rw [cell_of_row _ _ _ _ _ _ hRv.at_]; rfl
  clear hRv hLG HHB HBn HR6
  go_wp2_with fail
  go_loopw [18] (fun x wr => ∃ i1 : Nat, i1 ≤ LG ∧ x = .int .i64 (i1 : Int) ∧ Hid (Below w7.heap.size w7 wr)) (fun x _ => LG - (intOf x).toNat)
  case atStart => exact ⟨0, by omega, rfl, Below.refl _ _⟩
  case round =>
  obtain ⟨i1, hi1, rfl, K3⟩ := hrel
  by_cases hlt5 : i1 < LG
  · obtain ⟨ag', cg', hvg, hcg⟩ := HRv.out.held
    have hi1' : i1 < (heldOf bk9 ps).length := by rw [heldOf_len, HLG.out]; exact hlt5
    obtain ⟨gg, e1, g2, k1, k2, -⟩ := hcg i1 hi1'
    rw [heldOf_len, HLG.out] at hvg
    cases hvg
    subst e1
    obtain ⟨d1, d2⟩ := heldOf_get hi1'
    rw [d1] at k1
    rw [d2] at k2
    have hin : ∃ q ∈ M9, isP ((ps[i1]'(by rw [heldOf_len] at hi1'; exact hi1')).1 : Int) ((ps[i1]'(by rw [heldOf_len] at hi1'; exact hi1')).2 : Int) q = true := ⟨_, (HRv.out.mem _).1 (List.getElem_mem (by rw [heldOf_len] at hi1'; exact hi1')), isP_iff.2 ⟨rfl, rfl⟩⟩
    generalize ((ps[i1]'(by rw [heldOf_len] at hi1'; exact hi1')).1 : Int) = z1 at *
    generalize ((ps[i1]'(by rw [heldOf_len] at hi1'; exact hi1')).2 : Int) = z2 at *
    obtain ⟨j1, hj1⟩ := ix_in hin
    have hq : ∀ j, wr.cell? ⟨gg, j, none⟩ = w7.cell? ⟨gg, j, none⟩ := fun j => K3.out.cell g2
    have c3 : wr.drew.cell? ⟨gg, i1 * 6, none⟩ = some (.int .i64 z1) ∧ wr.drew.cell? ⟨gg, i1 * 6 + 1, none⟩ = some (.int .i64 z2) := ⟨(hq _).trans k1, (hq _).trans k2⟩
    have HAt : Hid (∀ W, W = wr.drew → Calls Try.prog 27 #[.pointer (some ⟨Mb, 0, none⟩), .agg #[.int .i64 z1, .int .i64 z2]] W fun x w' => x = .returned (.int .i64 (j1 : Int)) ∧ Below w7.heap.size w7 w' ∧ w'.cell? ⟨gg, i1 * 6, none⟩ = some (.int .i64 z1) ∧ w'.cell? ⟨gg, i1 * 6 + 1, none⟩ = some (.int .i64 z2)) := by
      refine hide fun W hW => ?_
      subst hW
      have hbd := K3.out.drew
      refine (at_any wr.drew Mb _ M9 ((hbd.block Mb (Array.getElem?_eq_some_iff.1 HRv.out.at_).1).trans HRv.out.at_) (HRv.out.pr.keep (fun g hg => hbd.block g (HRv.out.pr.lt g hg))) (by rw [← HRv.out.len, HLG.out]; omega) z1 z2).mono ?_
      rintro x w' ⟨rfl, hb⟩
      have hb' := hbd.trans (hb.mono hbd.size)
      have hq' : ∀ j, w'.cell? ⟨gg, j, none⟩ = w7.cell? ⟨gg, j, none⟩ := fun j => hb'.cell g2
      exact ⟨by rw [hj1], hb', (hq' _).trans k1, (hq' _).trans k2⟩
    have hkl5 : (i1 : Int) < (LG : Int) := by omega
    have hwk5 : i1 * 6 + 5 < LG * 6 := by omega
    clear hcg k1 k2 d1 d2 hin hj1 hq K3 g2
    go_upto_region 38 with fail
    go_region_held (fun W => W.cell? ⟨gg, i1 * 6, none⟩ = some (.int .i64 z1) ∧ W.cell? ⟨gg, i1 * 6 + 1, none⟩ = some (.int .i64 z2))
      (first | assumption | exact q1 | exact c3)
      (first | (go_at_call 27; refine (HAt.out _ rfl).mono ?_; rintro e1 w5' ⟨rfl, hB5', q1⟩
                have HB5' := hide hB5'
                clear hB5'))
    have hj0 : ¬ (j1 : Int) < 0 := by omega
    go_wp2
    go_roundw
    case rel =>
      first
        | exact ⟨i1 + 1, by omega, by go_num, HB5'⟩
        | ((repeat apply Exists.intro); refine ⟨?_, rfl⟩; exact ⟨i1 + 1, by omega, by go_num, HB5'⟩)
    case measure => simp [intOf]; omega
  have hd6 : decide ((i1 : Int) < (LG : Int)) = false := by simp; omega
  have HBA := hide (all_any wr F9 B (rmv bk9 ps) (HRv.out.book.below K3.out))
  clear hmc
  go_wp2_with fail
  refine HBA.out.mono ?_
  rintro e w8 ⟨vA, rfl, hrowA, hb8⟩
  obtain ⟨LA, hLA⟩ : ∃ L, (hl (rmv bk9 ps) 16).length = L := ⟨_, rfl⟩
  have hHA := HeldAt.of_row hrowA
  obtain ⟨aA, cA, hvA⟩ : ∃ a c, vA = .slice a LA c := by
    obtain ⟨a, c, h, _⟩ := hHA
    exact ⟨a, c, by rw [← hLA]; exact h⟩
  subst hvA
  rw [hLA] at hlenA
  have HB8 := hide (K3.out.trans (hb8.mono K3.out.size))
  have HHA := hide hHA
  have HLA := hide hLA
  have hsub : (LB : Int) - (LG : Int) = (LA : Int) := by omega
  have hLA768 : LA ≤ 768 := by omega
  clear hrowA hb8 hHA hLA K3 HBA hd6
  go_upto_region 43 with fail
  go_wp2_with fail
  go_loopw [20] (fun x wr => ∃ i2 : Nat, i2 ≤ LA ∧ x = .int .i64 (i2 : Int) ∧ Hid (Below w8.heap.size w8 wr)) (fun x _ => LA - (intOf x).toNat)
  case atStart => exact ⟨0, by omega, rfl, Below.refl _ _⟩
  case round =>
  obtain ⟨i2, hi2, rfl, K4⟩ := hrel
  by_cases hlt6 : i2 < LA
  · obtain ⟨aA', cA', hvA, hcA⟩ := HHA.out
    have hi2' : i2 < (hl (rmv bk9 ps) 16).length := by rw [HLA.out]; exact hlt6
    obtain ⟨ga, e1, g2, k1, k2, k3, k4, k5, k6⟩ := hcA i2 hi2'
    rw [HLA.out] at hvA
    cases hvA
    subst e1
    obtain ⟨iy, hy1, hyat, hyn⟩ := HRv.out.aft _ (List.getElem_mem hi2')
    generalize (hl (rmv bk9 ps) 16)[i2] = y at *
    obtain ⟨y1, y2', yr⟩ := y
    simp only at hy1 hyat hyn k1 k2 k3 k4 k5 k6
    obtain ⟨y2, hy2⟩ : ∃ y2 : Int, y2 = (y2' : Int) := ⟨_, rfl⟩
    rw [← hy2] at k2
    obtain ⟨wR, hwR⟩ : ∃ wR, wR = wr.drew := ⟨_, rfl⟩
    have hbR : Below w8.heap.size w8 wR := by rw [hwR]; exact K4.out.drew
    have HBR := hide hbR
    have HCa : Hid (∀ W, Below wR.heap.size wR W → W.cell? ⟨ga, i2 * 6, none⟩ = some (.int .i64 y1) ∧ W.cell? ⟨ga, i2 * 6 + 1, none⟩ = some (.int .i64 y2) ∧ W.cell? ⟨ga, i2 * 6 + 2, none⟩ = some (.int .i64 yr.k) ∧ W.cell? ⟨ga, i2 * 6 + 3, none⟩ = some (.int .i64 yr.o) ∧ W.cell? ⟨ga, i2 * 6 + 4, none⟩ = some (.int .i64 yr.s) ∧ W.cell? ⟨ga, i2 * 6 + 5, none⟩ = some (.int .i64 yr.r)) := by
      refine hide fun W hW => ?_
      have hq : ∀ j, W.cell? ⟨ga, j, none⟩ = w8.cell? ⟨ga, j, none⟩ := fun j => (hbR.trans (hW.mono hbR.size)).cell g2
      exact ⟨by rw [hq]; exact k1, by rw [hq]; exact k2, by rw [hq]; exact k3, by rw [hq]; exact k4, by rw [hq]; exact k5, by rw [hq]; exact k6⟩
    have HSk : Hid (∀ W, Below wR.heap.size wR W → W.cell? ⟨ga, i2 * 6, none⟩ = some (.int .i64 y1) ∧ W.cell? ⟨ga, i2 * 6 + 1, none⟩ = some (.int .i64 y2)) := hide fun W hW => ⟨(HCa.out W hW).1, (HCa.out W hW).2.1⟩
    have hS := HSk.out wR (Below.refl _ _)
    have HHas : Hid (∀ W, Below wR.heap.size wR W → Calls Try.prog 28 #[.slice aB LB cB, .agg #[.int .i64 y1, .int .i64 y2]] W fun x w' => x = .returned (.tuple #[.agg #[.int .i64 y1, .int .i64 y2, .int .i64 yr.k, .int .i64 yr.o, .int .i64 yr.s, .int .i64 yr.r], .bool true]) ∧ Below W.heap.size W w') := by
      refine hide fun W hW => ?_
      have hb7W := HB8.out.trans ((hbR.trans (hW.mono hbR.size)).mono HB8.out.size)
      refine (hasH_any W _ (hl bk9 16) (HHB7.out.below hb7W) (by rw [HLB.out]; omega) y1 y2).mono ?_
      rintro x w' ⟨hor, hb⟩
      obtain ⟨i', j', e1, e2, hfd⟩ := hl_find (bk := bk9) HB16.out hyat
      refine ⟨?_, hb⟩
      rw [hy1, hy2] at hor ⊢
      rcases hor with ⟨yy, h1, rfl⟩ | ⟨h1, _⟩
      · rw [hfd] at h1
        cases h1
        rw [e1, e2]
      · rw [hfd] at h1; cases h1
    have HIx : Hid (ixM M9 y1 y2 = -1) := by
      refine hide (ix_out fun q hq => ?_)
      cases hp : isP y1 y2 q
      · rfl
      · have h1 := isP_iff.1 hp
        refine (hyn ?_).elim
        rw [show (iy, y2') = q from Prod.ext (by show iy = q.1; omega) (by show y2' = q.2; omega)]
        exact (HRv.out.mem q).2 hq
    have hkl6 : (i2 : Int) < (LA : Int) := by omega
    have hwk6 : i2 * 6 + 5 < LA * 6 := by omega
    clear hcA k1 k2 k3 k4 k5 k6 hy1 hyat hyn hy2 hbR K4 g2
    go_upto_region 46 with fail
    refine wp_region_held_drew (S := fun W => W.cell? ⟨ga, i2 * 6, none⟩ = some (.int .i64 y1) ∧ W.cell? ⟨ga, i2 * 6 + 1, none⟩ = some (.int .i64 y2)) (by kernel_rfl) (by rw [← hwR]; exact hS) (fun _ => ?_)
    rw [← hwR]
    clear hwR
    refine hd_take 0 (o := ⟨some 203, _, _, _, _, _⟩) (.slice aB LB cB) (by kernel_rfl) (by kernel_rfl) (by kernel_rfl) rfl (by rfl) (fun W hSw => by go_simp) (fun _ _ _ h => h) hS ?_
    simp only [Act.put, List.setIfInBounds_toArray, List.set_cons_zero, List.set_cons_succ]
    refine hd_take 1 (o := ⟨some 204, _, _, _, _, _⟩) (.slice (some ⟨ga, 0, none⟩) LA cA) (by kernel_rfl) (by kernel_rfl) (by kernel_rfl) rfl (by rfl) (fun W hSw => by go_simp) (fun _ _ _ h => h) hS ?_
    simp only [Act.put, List.setIfInBounds_toArray, List.set_cons_zero, List.set_cons_succ]
    refine hd_take 2 (o := ⟨some 205, _, _, _, _, _⟩) (.int .i64 (i2 : Int)) (by kernel_rfl) (by kernel_rfl) (by kernel_rfl) rfl (by rfl) (fun W hSw => by go_simp) (fun _ _ _ h => h) hS ?_
    simp only [Act.put, List.setIfInBounds_toArray, List.set_cons_zero, List.set_cons_succ]
    refine hd_take 3 (o := ⟨some 206, _, _, _, _, _⟩) (.pointer (some ⟨ga, i2 * 6, none⟩)) (by kernel_rfl) (by kernel_rfl) (by kernel_rfl) rfl (by rfl) (fun W hSw => by go_simp) (fun _ _ _ h => h) hS ?_
    simp only [Act.put, List.setIfInBounds_toArray, List.set_cons_zero, List.set_cons_succ]
    refine hd_take 4 (o := ⟨some 207, _, _, _, _, _⟩) (.pointer (some ⟨ga, i2 * 6, none⟩)) (by kernel_rfl) (by kernel_rfl) (by kernel_rfl) rfl (by rfl) (fun W hSw => by go_simp) (fun _ _ _ h => h) hS ?_
    simp only [Act.put, List.setIfInBounds_toArray, List.set_cons_zero, List.set_cons_succ]
    refine hd_take 5 (o := ⟨some 208, _, _, _, _, _⟩) (.int .i64 y1) (by kernel_rfl) (by kernel_rfl) (by kernel_rfl) rfl (by rfl) (fun W hSw => by obtain ⟨s0, s1⟩ := hSw; go_simp) (fun _ _ _ h => h) hS ?_
    simp only [Act.put, List.setIfInBounds_toArray, List.set_cons_zero, List.set_cons_succ]
    refine hd_take 6 (o := ⟨some 209, _, _, _, _, _⟩) (.slice (some ⟨ga, 0, none⟩) LA cA) (by kernel_rfl) (by kernel_rfl) (by kernel_rfl) rfl (by rfl) (fun W hSw => by go_simp) (fun _ _ _ h => h) hS ?_
    simp only [Act.put, List.setIfInBounds_toArray, List.set_cons_zero, List.set_cons_succ]
    refine hd_take 7 (o := ⟨some 210, _, _, _, _, _⟩) (.int .i64 (i2 : Int)) (by kernel_rfl) (by kernel_rfl) (by kernel_rfl) rfl (by rfl) (fun W hSw => by go_simp) (fun _ _ _ h => h) hS ?_
    simp only [Act.put, List.setIfInBounds_toArray, List.set_cons_zero, List.set_cons_succ]
    refine hd_take 8 (o := ⟨some 211, _, _, _, _, _⟩) (.pointer (some ⟨ga, i2 * 6, none⟩)) (by kernel_rfl) (by kernel_rfl) (by kernel_rfl) rfl (by rfl) (fun W hSw => by go_simp) (fun _ _ _ h => h) hS ?_
    simp only [Act.put, List.setIfInBounds_toArray, List.set_cons_zero, List.set_cons_succ]
    refine hd_take 9 (o := ⟨some 212, _, _, _, _, _⟩) (.pointer (some ⟨ga, i2 * 6 + 1, none⟩)) (by kernel_rfl) (by kernel_rfl) (by kernel_rfl) rfl (by rfl) (fun W hSw => by go_simp) (fun _ _ _ h => h) hS ?_
    simp only [Act.put, List.setIfInBounds_toArray, List.set_cons_zero, List.set_cons_succ]
    refine hd_take 10 (o := ⟨some 213, _, _, _, _, _⟩) (.int .i64 y2) (by kernel_rfl) (by kernel_rfl) (by kernel_rfl) rfl (by rfl) (fun W hSw => by obtain ⟨s0, s1⟩ := hSw; go_simp) (fun _ _ _ h => h) hS ?_
    simp only [Act.put, List.setIfInBounds_toArray, List.set_cons_zero, List.set_cons_succ]
    refine hd_take 11 (o := ⟨some 214, _, _, _, _, _⟩) (.agg #[.int .i64 y1, .int .i64 y2]) (by kernel_rfl) (by kernel_rfl) (by kernel_rfl) rfl (by rfl) (fun W hSw => by go_simp) (fun _ _ _ h => h) hS ?_
    simp only [Act.put, List.setIfInBounds_toArray, List.set_cons_zero, List.set_cons_succ]
    refine hd_two 12 16 (o1 := ⟨some 215, _, _, _, _, _⟩) (o2 := ⟨some 21, _, _, _, _, _⟩) (by kernel_rfl) rfl rfl (by rfl) (by rfl) (fun K hK => ?_) (fun K hK => ?_)
    · go_simp
      go_wp2_with (go_at_call 28; refine (HHas.out _ (Below.refl _ _)).mono ?_; rintro e1 w9 ⟨rfl, hb9⟩)
      have hS9 := HSk.out _ hb9
      refine hK _ _ hS9 ?_
      clear hK K
      try simp only [Act.put, List.setIfInBounds_toArray, List.set_cons_zero, List.set_cons_succ]
      refine hd_take 13 (o := ⟨some 202, _, _, _, _, _⟩) (.tuple #[.agg #[.int .i64 y1, .int .i64 y2, .int .i64 yr.k, .int .i64 yr.o, .int .i64 yr.s, .int .i64 yr.r], .bool true]) (by kernel_rfl) (by kernel_rfl) (by kernel_rfl) rfl (by rfl) (fun W hSw => by go_simp) (fun _ _ _ h => h) hS9 ?_
      simp only [Act.put, List.setIfInBounds_toArray, List.set_cons_zero, List.set_cons_succ]
      refine hd_take 14 (o := ⟨some 216, _, _, _, _, _⟩) (.agg #[.int .i64 y1, .int .i64 y2, .int .i64 yr.k, .int .i64 yr.o, .int .i64 yr.s, .int .i64 yr.r]) (by kernel_rfl) (by kernel_rfl) (by kernel_rfl) rfl (by rfl) (fun W hSw => by go_simp) (fun _ _ _ h => h) hS9 ?_
      simp only [Act.put, List.setIfInBounds_toArray, List.set_cons_zero, List.set_cons_succ]
      refine hd_take 15 (o := ⟨some 217, _, _, _, _, _⟩) (.bool true) (by kernel_rfl) (by kernel_rfl) (by kernel_rfl) rfl (by rfl) (fun W hSw => by go_simp) (fun _ _ _ h => h) hS9 ?_
      simp only [Act.put, List.setIfInBounds_toArray, List.set_cons_zero, List.set_cons_succ]
      have hbA := hb9.alloc hb9.size (.cells #[.int .i64 0, .int .i64 0, .int .i64 0, .int .i64 0, .int .i64 0, .int .i64 0] 54)
      have hHz := heap_alloc_new w9 (.cells #[.int .i64 0, .int .i64 0, .int .i64 0, .int .i64 0, .int .i64 0, .int .i64 0] 54)
      have hHlo := hb9.size
      have hSA := HSk.out _ hbA
      refine hd_call 16 (o := ⟨some 21, _, _, _, _, _⟩) (by kernel_rfl) rfl (by rfl) (fun K hK => ?_)
      go_simp
      refine hK _ _ hSA ?_
      clear hK K
      try simp only [Act.put, List.setIfInBounds_toArray, List.set_cons_zero, List.set_cons_succ]
      generalize w9.alloc (.cells #[.int .i64 0, .int .i64 0, .int .i64 0, .int .i64 0, .int .i64 0, .int .i64 0] 54) = wA at *
      generalize w9.heap.size = H at *
      obtain ⟨z0, z1, z2, z3, z4, z5, f0, f1, f2, f3, f4, f5⟩ := blk6 hHz
      have HSet := hide (fun a b c d e f => set6 hHz a b c d e f)
      have HBs := hide (fun a b c d e f => below_six hbA hHlo a b c d e f)
      clear hHz hbA hHlo
      refine hd_call 17 (o := ⟨none, _, _, _, _, _⟩) (by kernel_rfl) rfl (by rfl) (fun K hK => ?_)
      go_simp
      refine hK _ _ (HSk.out _ (HBs.out _ _ _ _ _ _)) ?_
      clear hK K
      try simp only [Act.put, List.setIfInBounds_toArray, List.set_cons_zero, List.set_cons_succ]
      have hSz := HSk.out _ (HBs.out (.int .i64 y1) (.int .i64 y2) (.int .i64 yr.k) (.int .i64 yr.o) (.int .i64 yr.s) (.int .i64 yr.r))
      refine hd_take 18 (o := ⟨some 22, _, _, _, _, _⟩) (.bool true) (by kernel_rfl) (by kernel_rfl) (by kernel_rfl) rfl (by rfl) (fun W hSw => by go_simp) (fun _ _ _ h => h) hSz ?_
      simp only [Act.put, List.setIfInBounds_toArray, List.set_cons_zero, List.set_cons_succ]
      refine wpAnyH_done (by kernel_rfl) ?_ _
      have HSt := hide (HSet.out (.int .i64 y1) (.int .i64 y2) (.int .i64 yr.k) (.int .i64 yr.o) (.int .i64 yr.s) (.int .i64 yr.r))
      have HBt := hide (HBs.out (.int .i64 y1) (.int .i64 y2) (.int .i64 yr.k) (.int .i64 yr.o) (.int .i64 yr.s) (.int .i64 yr.r))
      clear HSet HBs hS hSz z0 z1 z2 z3 z4 z5 f0 f1 f2 f3 f4 f5
      generalize (((((wA.setCell ⟨H, 0, none⟩ (.int .i64 y1)).setCell ⟨H, 1, none⟩ (.int .i64 y2)).setCell ⟨H, 2, none⟩ (.int .i64 yr.k)).setCell ⟨H, 3, none⟩ (.int .i64 yr.o)).setCell ⟨H, 4, none⟩ (.int .i64 yr.s)).setCell ⟨H, 5, none⟩ (.int .i64 yr.r) = wT at *
      have HS47 : Hid (∀ W, Below wT.heap.size wT W → W.cell? ⟨H, 0, none⟩ = some (.int .i64 y1) ∧ W.cell? ⟨H, 1, none⟩ = some (.int .i64 y2) ∧ W.cell? ⟨H, 2, none⟩ = some (.int .i64 yr.k) ∧ W.cell? ⟨H, 3, none⟩ = some (.int .i64 yr.o) ∧ W.cell? ⟨H, 4, none⟩ = some (.int .i64 yr.s) ∧ W.cell? ⟨H, 5, none⟩ = some (.int .i64 yr.r) ∧ W.cell? ⟨ga, i2 * 6, none⟩ = some (.int .i64 y1) ∧ W.cell? ⟨ga, i2 * 6 + 1, none⟩ = some (.int .i64 y2) ∧ W.cell? ⟨ga, i2 * 6 + 2, none⟩ = some (.int .i64 yr.k) ∧ W.cell? ⟨ga, i2 * 6 + 3, none⟩ = some (.int .i64 yr.o) ∧ W.cell? ⟨ga, i2 * 6 + 4, none⟩ = some (.int .i64 yr.s) ∧ W.cell? ⟨ga, i2 * 6 + 5, none⟩ = some (.int .i64 yr.r)) := by
        refine hide fun W hW => ?_
        obtain ⟨a0, a1', a2', a3, a4, a5⟩ := HCa.out W (HBt.out.trans (hW.mono HBt.out.size))
        obtain ⟨h0, h1, h2, h3, h4, h5, -, -, -, -, -, -⟩ := blk6 ((hW.block H (Array.getElem?_eq_some_iff.1 HSt.out).1).trans HSt.out)
        exact ⟨h0, h1, h2, h3, h4, h5, a0, a1', a2', a3, a4, a5⟩
      have HAt : Hid (∀ W, W = wT.drew → Calls Try.prog 27 #[.pointer (some ⟨Mb, 0, none⟩), .agg #[.int .i64 y1, .int .i64 y2]] W fun x w' => x = .returned (.int .i64 (-1)) ∧ Below w8.heap.size w8 w' ∧ w'.cell? ⟨H, 0, none⟩ = some (.int .i64 y1) ∧ w'.cell? ⟨H, 1, none⟩ = some (.int .i64 y2) ∧ w'.cell? ⟨H, 2, none⟩ = some (.int .i64 yr.k) ∧ w'.cell? ⟨H, 3, none⟩ = some (.int .i64 yr.o) ∧ w'.cell? ⟨H, 4, none⟩ = some (.int .i64 yr.s) ∧ w'.cell? ⟨H, 5, none⟩ = some (.int .i64 yr.r) ∧ w'.cell? ⟨ga, i2 * 6, none⟩ = some (.int .i64 y1) ∧ w'.cell? ⟨ga, i2 * 6 + 1, none⟩ = some (.int .i64 y2) ∧ w'.cell? ⟨ga, i2 * 6 + 2, none⟩ = some (.int .i64 yr.k) ∧ w'.cell? ⟨ga, i2 * 6 + 3, none⟩ = some (.int .i64 yr.o) ∧ w'.cell? ⟨ga, i2 * 6 + 4, none⟩ = some (.int .i64 yr.s) ∧ w'.cell? ⟨ga, i2 * 6 + 5, none⟩ = some (.int .i64 yr.r)) := by
        refine hide fun W hW => ?_
        subst hW
        have hbd : Below w8.heap.size w8 wT.drew := (HBR.out.trans (HBt.out.mono HBR.out.size)).drew
        have hbd7 := HB8.out.trans (hbd.mono HB8.out.size)
        refine (at_any wT.drew Mb _ M9 ((hbd7.block Mb (Array.getElem?_eq_some_iff.1 HRv.out.at_).1).trans HRv.out.at_) (HRv.out.pr.keep (fun g hg => hbd7.block g (HRv.out.pr.lt g hg))) (by rw [← HRv.out.len, HLG.out]; omega) y1 y2).mono ?_
        rintro x w' ⟨rfl, hb⟩
        exact ⟨by rw [HIx.out], hbd.trans (hb.mono hbd.size), HS47.out w' (((Below.refl wT.heap.size wT).drew).trans hb)⟩
      have c47 := HS47.out wT.drew (Below.refl wT.heap.size wT).drew
      clear HS47 HSt HCa HHas HSk
      go_upto_region 47 with fail
      go_region_held (fun W => W.cell? ⟨H, 0, none⟩ = some (.int .i64 y1) ∧ W.cell? ⟨H, 1, none⟩ = some (.int .i64 y2) ∧ W.cell? ⟨H, 2, none⟩ = some (.int .i64 yr.k) ∧ W.cell? ⟨H, 3, none⟩ = some (.int .i64 yr.o) ∧ W.cell? ⟨H, 4, none⟩ = some (.int .i64 yr.s) ∧ W.cell? ⟨H, 5, none⟩ = some (.int .i64 yr.r) ∧ W.cell? ⟨ga, i2 * 6, none⟩ = some (.int .i64 y1) ∧ W.cell? ⟨ga, i2 * 6 + 1, none⟩ = some (.int .i64 y2) ∧ W.cell? ⟨ga, i2 * 6 + 2, none⟩ = some (.int .i64 yr.k) ∧ W.cell? ⟨ga, i2 * 6 + 3, none⟩ = some (.int .i64 yr.o) ∧ W.cell? ⟨ga, i2 * 6 + 4, none⟩ = some (.int .i64 yr.s) ∧ W.cell? ⟨ga, i2 * 6 + 5, none⟩ = some (.int .i64 yr.r))
        (first | assumption | exact q1 | exact c47)
        (first | (go_at_call 27; refine (HAt.out _ rfl).mono ?_; rintro e1 w5A ⟨rfl, hB5A, q1⟩
                  have HB5A := hide hB5A
                  clear hB5A))
      go_wp2
      go_roundw
      case rel =>
        first
          | exact ⟨i2 + 1, by omega, by go_num, HB5A⟩
          | ((repeat apply Exists.intro); refine ⟨?_, rfl⟩; exact ⟨i2 + 1, by omega, by go_num, HB5A⟩)
      case measure => simp [intOf]; omega
    · have hb8 := (Below.refl wR.heap.size wR).alloc (Nat.le_refl _) (.cells #[.int .i64 0, .int .i64 0, .int .i64 0, .int .i64 0, .int .i64 0, .int .i64 0] 54)
      have hH8 := heap_alloc_new wR (.cells #[.int .i64 0, .int .i64 0, .int .i64 0, .int .i64 0, .int .i64 0, .int .i64 0] 54)
      have hS8 := HSk.out _ hb8
      go_simp
      refine hK _ _ hS8 ?_
      clear hK K
      try simp only [Act.put, List.setIfInBounds_toArray, List.set_cons_zero, List.set_cons_succ]
      refine hd_call 12 (o := ⟨some 215, _, _, _, _, _⟩) (by kernel_rfl) rfl (by rfl) (fun K hK => ?_)
      go_simp
      go_wp2_with (go_at_call 28; refine (HHas.out _ hb8).mono ?_; rintro e1 w9 ⟨rfl, hb9⟩)
      have hHz := (hb9.block wR.heap.size (Array.getElem?_eq_some_iff.1 hH8).1).trans hH8
      have hbA := hb8.trans (hb9.mono hb8.size)
      have hHlo : wR.heap.size ≤ wR.heap.size := Nat.le_refl _
      have hSA := HSk.out _ hbA
      refine hK _ _ hSA ?_
      clear hK K hH8
      try simp only [Act.put, List.setIfInBounds_toArray, List.set_cons_zero, List.set_cons_succ]
      refine hd_take 13 (o := ⟨some 202, _, _, _, _, _⟩) (.tuple #[.agg #[.int .i64 y1, .int .i64 y2, .int .i64 yr.k, .int .i64 yr.o, .int .i64 yr.s, .int .i64 yr.r], .bool true]) (by kernel_rfl) (by kernel_rfl) (by kernel_rfl) rfl (by rfl) (fun W hSw => by go_simp) (fun _ _ _ h => h) hSA ?_
      simp only [Act.put, List.setIfInBounds_toArray, List.set_cons_zero, List.set_cons_succ]
      refine hd_take 14 (o := ⟨some 216, _, _, _, _, _⟩) (.agg #[.int .i64 y1, .int .i64 y2, .int .i64 yr.k, .int .i64 yr.o, .int .i64 yr.s, .int .i64 yr.r]) (by kernel_rfl) (by kernel_rfl) (by kernel_rfl) rfl (by rfl) (fun W hSw => by go_simp) (fun _ _ _ h => h) hSA ?_
      simp only [Act.put, List.setIfInBounds_toArray, List.set_cons_zero, List.set_cons_succ]
      refine hd_take 15 (o := ⟨some 217, _, _, _, _, _⟩) (.bool true) (by kernel_rfl) (by kernel_rfl) (by kernel_rfl) rfl (by rfl) (fun W hSw => by go_simp) (fun _ _ _ h => h) hSA ?_
      simp only [Act.put, List.setIfInBounds_toArray, List.set_cons_zero, List.set_cons_succ]
      clear hb9 hb8 hS8
      obtain ⟨H, hHH⟩ : ∃ H, H = wR.heap.size := ⟨_, rfl⟩
      replace hHlo : wR.heap.size ≤ H := by omega
      rw [← hHH] at hHz ⊢
      clear hHH
      generalize w9 = wA at *
      obtain ⟨z0, z1, z2, z3, z4, z5, f0, f1, f2, f3, f4, f5⟩ := blk6 hHz
      have HSet := hide (fun a b c d e f => set6 hHz a b c d e f)
      have HBs := hide (fun a b c d e f => below_six hbA hHlo a b c d e f)
      clear hHz hbA hHlo
      refine hd_call 17 (o := ⟨none, _, _, _, _, _⟩) (by kernel_rfl) rfl (by rfl) (fun K hK => ?_)
      go_simp
      refine hK _ _ (HSk.out _ (HBs.out _ _ _ _ _ _)) ?_
      clear hK K
      try simp only [Act.put, List.setIfInBounds_toArray, List.set_cons_zero, List.set_cons_succ]
      have hSz := HSk.out _ (HBs.out (.int .i64 y1) (.int .i64 y2) (.int .i64 yr.k) (.int .i64 yr.o) (.int .i64 yr.s) (.int .i64 yr.r))
      refine hd_take 18 (o := ⟨some 22, _, _, _, _, _⟩) (.bool true) (by kernel_rfl) (by kernel_rfl) (by kernel_rfl) rfl (by rfl) (fun W hSw => by go_simp) (fun _ _ _ h => h) hSz ?_
      simp only [Act.put, List.setIfInBounds_toArray, List.set_cons_zero, List.set_cons_succ]
      refine wpAnyH_done (by kernel_rfl) ?_ _
      have HSt := hide (HSet.out (.int .i64 y1) (.int .i64 y2) (.int .i64 yr.k) (.int .i64 yr.o) (.int .i64 yr.s) (.int .i64 yr.r))
      have HBt := hide (HBs.out (.int .i64 y1) (.int .i64 y2) (.int .i64 yr.k) (.int .i64 yr.o) (.int .i64 yr.s) (.int .i64 yr.r))
      clear HSet HBs hS hSz z0 z1 z2 z3 z4 z5 f0 f1 f2 f3 f4 f5
      generalize (((((wA.setCell ⟨H, 0, none⟩ (.int .i64 y1)).setCell ⟨H, 1, none⟩ (.int .i64 y2)).setCell ⟨H, 2, none⟩ (.int .i64 yr.k)).setCell ⟨H, 3, none⟩ (.int .i64 yr.o)).setCell ⟨H, 4, none⟩ (.int .i64 yr.s)).setCell ⟨H, 5, none⟩ (.int .i64 yr.r) = wT at *
      have HS47 : Hid (∀ W, Below wT.heap.size wT W → W.cell? ⟨H, 0, none⟩ = some (.int .i64 y1) ∧ W.cell? ⟨H, 1, none⟩ = some (.int .i64 y2) ∧ W.cell? ⟨H, 2, none⟩ = some (.int .i64 yr.k) ∧ W.cell? ⟨H, 3, none⟩ = some (.int .i64 yr.o) ∧ W.cell? ⟨H, 4, none⟩ = some (.int .i64 yr.s) ∧ W.cell? ⟨H, 5, none⟩ = some (.int .i64 yr.r) ∧ W.cell? ⟨ga, i2 * 6, none⟩ = some (.int .i64 y1) ∧ W.cell? ⟨ga, i2 * 6 + 1, none⟩ = some (.int .i64 y2) ∧ W.cell? ⟨ga, i2 * 6 + 2, none⟩ = some (.int .i64 yr.k) ∧ W.cell? ⟨ga, i2 * 6 + 3, none⟩ = some (.int .i64 yr.o) ∧ W.cell? ⟨ga, i2 * 6 + 4, none⟩ = some (.int .i64 yr.s) ∧ W.cell? ⟨ga, i2 * 6 + 5, none⟩ = some (.int .i64 yr.r)) := by
        refine hide fun W hW => ?_
        obtain ⟨a0, a1', a2', a3, a4, a5⟩ := HCa.out W (HBt.out.trans (hW.mono HBt.out.size))
        obtain ⟨h0, h1, h2, h3, h4, h5, -, -, -, -, -, -⟩ := blk6 ((hW.block H (Array.getElem?_eq_some_iff.1 HSt.out).1).trans HSt.out)
        exact ⟨h0, h1, h2, h3, h4, h5, a0, a1', a2', a3, a4, a5⟩
      have HAt : Hid (∀ W, W = wT.drew → Calls Try.prog 27 #[.pointer (some ⟨Mb, 0, none⟩), .agg #[.int .i64 y1, .int .i64 y2]] W fun x w' => x = .returned (.int .i64 (-1)) ∧ Below w8.heap.size w8 w' ∧ w'.cell? ⟨H, 0, none⟩ = some (.int .i64 y1) ∧ w'.cell? ⟨H, 1, none⟩ = some (.int .i64 y2) ∧ w'.cell? ⟨H, 2, none⟩ = some (.int .i64 yr.k) ∧ w'.cell? ⟨H, 3, none⟩ = some (.int .i64 yr.o) ∧ w'.cell? ⟨H, 4, none⟩ = some (.int .i64 yr.s) ∧ w'.cell? ⟨H, 5, none⟩ = some (.int .i64 yr.r) ∧ w'.cell? ⟨ga, i2 * 6, none⟩ = some (.int .i64 y1) ∧ w'.cell? ⟨ga, i2 * 6 + 1, none⟩ = some (.int .i64 y2) ∧ w'.cell? ⟨ga, i2 * 6 + 2, none⟩ = some (.int .i64 yr.k) ∧ w'.cell? ⟨ga, i2 * 6 + 3, none⟩ = some (.int .i64 yr.o) ∧ w'.cell? ⟨ga, i2 * 6 + 4, none⟩ = some (.int .i64 yr.s) ∧ w'.cell? ⟨ga, i2 * 6 + 5, none⟩ = some (.int .i64 yr.r)) := by
        refine hide fun W hW => ?_
        subst hW
        have hbd : Below w8.heap.size w8 wT.drew := (HBR.out.trans (HBt.out.mono HBR.out.size)).drew
        have hbd7 := HB8.out.trans (hbd.mono HB8.out.size)
        refine (at_any wT.drew Mb _ M9 ((hbd7.block Mb (Array.getElem?_eq_some_iff.1 HRv.out.at_).1).trans HRv.out.at_) (HRv.out.pr.keep (fun g hg => hbd7.block g (HRv.out.pr.lt g hg))) (by rw [← HRv.out.len, HLG.out]; omega) y1 y2).mono ?_
        rintro x w' ⟨rfl, hb⟩
        exact ⟨by rw [HIx.out], hbd.trans (hb.mono hbd.size), HS47.out w' (((Below.refl wT.heap.size wT).drew).trans hb)⟩
      have c47 := HS47.out wT.drew (Below.refl wT.heap.size wT).drew
      clear HS47 HSt HCa HHas HSk
      go_upto_region 47 with fail
      go_region_held (fun W => W.cell? ⟨H, 0, none⟩ = some (.int .i64 y1) ∧ W.cell? ⟨H, 1, none⟩ = some (.int .i64 y2) ∧ W.cell? ⟨H, 2, none⟩ = some (.int .i64 yr.k) ∧ W.cell? ⟨H, 3, none⟩ = some (.int .i64 yr.o) ∧ W.cell? ⟨H, 4, none⟩ = some (.int .i64 yr.s) ∧ W.cell? ⟨H, 5, none⟩ = some (.int .i64 yr.r) ∧ W.cell? ⟨ga, i2 * 6, none⟩ = some (.int .i64 y1) ∧ W.cell? ⟨ga, i2 * 6 + 1, none⟩ = some (.int .i64 y2) ∧ W.cell? ⟨ga, i2 * 6 + 2, none⟩ = some (.int .i64 yr.k) ∧ W.cell? ⟨ga, i2 * 6 + 3, none⟩ = some (.int .i64 yr.o) ∧ W.cell? ⟨ga, i2 * 6 + 4, none⟩ = some (.int .i64 yr.s) ∧ W.cell? ⟨ga, i2 * 6 + 5, none⟩ = some (.int .i64 yr.r))
        (first | assumption | exact q1 | exact c47)
        (first | (go_at_call 27; refine (HAt.out _ rfl).mono ?_; rintro e1 w5B ⟨rfl, hB5B, q1⟩
                  have HB5B := hide hB5B
                  clear hB5B))
      go_wp2
      go_roundw
      case rel =>
        first
          | exact ⟨i2 + 1, by omega, by go_num, HB5B⟩
          | ((repeat apply Exists.intro); refine ⟨?_, rfl⟩; exact ⟨i2 + 1, by omega, by go_num, HB5B⟩)
      case measure => simp [intOf]; omega
  have hd7 : decide ((i2 : Int) < (LA : Int)) = false := by simp; omega
  have HBz := hide (HRv.out.bel.trans ((HB8.out.trans (K4.out.mono HB8.out.size)).mono HRv.out.bel.size))
  clear K4
  go_wp2
  go_ret
  exact ⟨rfl, HBz.out⟩
end Go.Proofs.Ytimfgjndgfjjgaa
