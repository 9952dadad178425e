import Derived.Test.YtngmnlmagbfijaaTA
namespace Go.Proofs.Ytngmnlmagbfijaa
open Go.RowKit
theorem shs_set : ∀ (l : List Sh) (i : Nat) (x : Sh), shs (l.set i x) = (((shs l).set (i * 3) (.int .i64 x.s)).set (i * 3 + 1) (.int .i64 x.w)).set (i * 3 + 2) (.int .i64 x.p)
  | [], _, _ => rfl
  | b :: cs, 0, x => rfl
  | b :: cs, i + 1, x => by
    have := shs_set cs i x
    rw [show (i + 1) * 3 = i * 3 + 3 by omega, show i * 3 + 3 + 1 = i * 3 + 1 + 3 by omega, show i * 3 + 3 + 2 = i * 3 + 2 + 3 by omega]
    simp only [List.set_cons_succ, shs, List.flatMap_cons, shL, List.cons_append, List.nil_append] at this ⊢
    rw [this]
theorem shs_app (l r : List Sh) : shs (l ++ r) = shs l ++ shs r := by simp [shs]
/-- the first k shares wiped out -/
def wiped (T : List Sh) (k : Nat) : List Sh := List.replicate k ⟨-1, 0, 0⟩ ++ T.drop k
theorem wiped_len {T : List Sh} {k : Nat} (h : k ≤ T.length) : (wiped T k).length = T.length := by unfold wiped; simp; omega
theorem wiped_zero (T : List Sh) : wiped T 0 = T := rfl
theorem wiped_succ {T : List Sh} {k : Nat} (h : k < T.length) : wiped T (k + 1) = (wiped T k).set k ⟨-1, 0, 0⟩ := by
  unfold wiped
  rw [List.set_append_right _ _ (by simp), List.length_replicate, Nat.sub_self, List.drop_eq_getElem_cons h, List.set_cons_zero, List.replicate_succ', List.append_assoc]
  rfl
theorem wiped_all (T : List Sh) : wiped T T.length = List.replicate T.length ⟨-1, 0, 0⟩ := by unfold wiped; simp
theorem told_uniq {s : Pl} {k1 k2 : List Int} (h1 : k1.Pairwise (fun a b => a < b)) (h2 : k2.Pairwise (fun a b => a < b)) (m1 : ∀ k, k ∈ k1 ↔ (s.wt k).isSome = true) (m2 : ∀ k, k ∈ k2 ↔ (s.wt k).isSome = true) : k1 = k2 := by
  have n1 : k1.Nodup := h1.imp (fun h => by omega)
  have n2 : k2.Nodup := h2.imp (fun h => by omega)
  exact List.Perm.eq_of_pairwise (le := fun a b : Int => a < b) (fun a b _ _ h1 h2 => by omega) h1 h2 ((List.perm_ext_iff_of_nodup n1 n2).2 (fun k => (m1 k).trans (m2 k).symm))
/-- a block where the first row's share is wiped out -/
theorem own_wipe {w : World} {base g cap n k : Nat} {l : List Sh} (x : Sh) (h : w.ownsRow base 37 3 (.slice (some ⟨g, 0, none⟩) n cap) n (shs l)) :
    (((w.setCell ⟨g, k * 3, none⟩ (.int .i64 x.s)).setCell ⟨g, k * 3 + 1, none⟩ (.int .i64 x.w)).setCell ⟨g, k * 3 + 2, none⟩ (.int .i64 x.p)).ownsRow base 37 3 (.slice (some ⟨g, 0, none⟩) n cap) n (shs (l.set k x)) := by
  rw [shs_set]
  exact (World.ownsRow.stored (World.ownsRow.stored (World.ownsRow.stored h _ _).1 _ _).1 _ _).1
/-- an append to the first of two rows, its literal laid ahead -/
theorem Two.add {base : Nat} {Z : Nat → Prop} {w w' : World} {e1 e2 : TypeId} {s1 s2 n1 n2 n1' : Nat} {v1 v2 v1' : Value} {x1 x2 x1' : List Value} (h : Two base Z w e1 s1 v1 n1 x1 e2 s2 v2 n2 x2) (hb : base ≤ w.heap.size) {ob : Obj} (hO : w'.ownsRow base e1 s1 v1' n1' x1') (hg : (w.alloc ob).grownBy w' v1.ownBlock) (hown : v1'.ownBlock = v1.ownBlock ∨ v1'.ownBlock = some (w.alloc ob).heap.size) :
    Two base Z w' e1 s1 v1' n1' x1' e2 s2 v2 n2 x2 ∧ (∀ b, Z b → w'.heap[b]? = w.heap[b]?) ∧ Below base w w' := by
  have hbl : Below w.heap.size w (w.alloc ob) := (Below.refl _ _).alloc (Nat.le_refl _) _
  have hz := hbl.size
  have h1 : Two base Z (w.alloc ob) e1 s1 v1 n1 x1 e2 s2 v2 n2 x2 := h.ext (X := fun _ => False) (X' := fun _ => False) ⟨Mod.of_below hbl, fun _ h => h.elim⟩ (fun _ h => h.elim) (fun b hb2 => ⟨by have := h.zl b hb2; omega, .inl hb2⟩)
  have h2 := h1.grow hO hg hown
  refine ⟨h2, fun b hb2 => ?_, (hbl.mono hb).grown hg (by omega) (fun j hj => (World.ownsRow.lt h1.r1 j hj).1)⟩
  rw [h1.stay (fun b hb hn => hg.block b hb (fun e => hn e.symm)) b hb2]
  exact Below.heap_alloc _ _ _ (h.zl b hb2)
section
variable (w : World)
set_option maxRecDepth 100000 in
set_option maxHeartbeats 16000000 in
theorem apart_any (g n : Nat) (X : Nat → Prop) (s : Pl) (hP : PlAt w X g n s) (hn : n ≤ 2097152) :
    Calls Try.prog 24 #[.pointer (some ⟨g, 0, none⟩)] w fun e w' => e = .returned (.bool true) ∧ Below w.heap.size w w' := by
  obtain ⟨i37, hi, hz, hs, hb⟩ := info37
  have HI := hide (And.intro hi (And.intro hz (And.intro hs hb)))
  clear hi hz hs hb
  have HP := hide hP
  have HP0 := hide hP
  clear hP
  go_enter Try.func24, Try.ntmps24
  go_wp2_with fail
  refine (Told_any w g n X s HP.out (by omega)).mono ?_
  rintro e w1 ⟨va, ks, rfl, a1, a2, a3, a4, a5⟩
  have HK := hide (And.intro a2 a3)
  have HA := hide a1
  have HB1 := hide a5
  have HP1 := hide (HP.out.below a5)
  clear a1 a2 a3 a5 HP
  go_wp2_with fail
  refine (Told_any w1 g n X s HP1.out (by omega)).mono ?_
  rintro e w2 ⟨vb, kb, rfl, a1, a2, a3, _, a5⟩
  obtain rfl : kb = ks := told_uniq a2 HK.out.1 a3 HK.out.2
  have HB := hide a1
  have HB2 := hide a5
  have HP2 := hide (HP1.out.below a5)
  clear a1 a2 a3 a5 HP1
  go_wp2_with fail
  refine (Told_any w2 g n X s HP2.out (by omega)).mono ?_
  rintro e w3 ⟨vc, kc, rfl, a1, a2, a3, _, a5⟩
  obtain rfl : kc = kb := told_uniq a2 HK.out.1 a3 HK.out.2
  have HC := hide a1
  have HB3 := hide a5
  have HP3 := hide (HP2.out.below a5)
  clear a1 a2 a3 a5 HP2
  obtain ⟨T, hT⟩ : ∃ T, told s kc = T := ⟨_, rfl⟩
  have HT := hide hT
  rw [hT] at HA HB HC
  obtain ⟨m, hm⟩ : ∃ m, T.length = m := ⟨_, rfl⟩
  have HM := hide hm
  have hml : m ≤ 2097152 := by have := a4; rw [← hm, ← hT]; unfold told; rw [List.length_map]; omega
  have hs1 := HB1.out.size
  have hs2 := HB2.out.size
  have hs3 := HB3.out.size
  obtain ⟨aa, ca, rfl⟩ : ∃ a c, va = .slice a m c := by
    obtain ⟨a, c, h⟩ := own_shape HA.out
    exact ⟨a, c, by rw [h, hm]⟩
  obtain ⟨ab, cb, rfl⟩ : ∃ a c, vb = .slice a m c := by
    obtain ⟨a, c, h⟩ := own_shape HB.out
    exact ⟨a, c, by rw [h, hm]⟩
  obtain ⟨ac, cc, rfl⟩ : ∃ a c, vc = .slice a m c := by
    obtain ⟨a, c, h⟩ := own_shape HC.out
    exact ⟨a, c, by rw [h, hm]⟩
  have HN : Hid (∀ k x, T[k]? = some x → T.take k ++ [x] = T.take (k + 1)) := hide (fun k x hx => by
    obtain ⟨h1, h2⟩ := List.getElem?_eq_some_iff.1 hx
    rw [List.take_succ_eq_append_getElem h1, h2])
  clear hT a4 hm
  go_upto_region 9 with fail
  go_loopw [7, 8] (fun v i wr => ∃ k : Nat, k ≤ m ∧ i = .int .i64 (k : Nat) ∧ Hid (Os wr w3.heap.size v (T.take k)) ∧ Hid (Below w3.heap.size w3 wr)) (fun _ i _ => m - (RowKit.intOf i).toNat)
  case atStart => exact ⟨0, by omega, rfl, hide ⟨by simp [shs], .inl ⟨rfl, rfl⟩⟩, hide (Below.refl _ _)⟩
  case round =>
    obtain ⟨k, hk, rfl, HO, HBk⟩ := hrel
    by_cases hlt : k < m
    · obtain ⟨x, hx⟩ : ∃ x, T[k]? = some x := ⟨T[k]'(by rw [HM.out]; exact hlt), List.getElem?_eq_getElem _⟩
      have hN := HN.out k x hx
      obtain ⟨y, rfl, _, c0, c1, c2⟩ := (HC.out.shr.keep (w' := wr) (fun b hb => HBk.out.block b hb.2)).at hx
      have hki : (k : Int) < m := by omega
      have hlk : (T.take k).length = k := by rw [List.length_take, HM.out]; omega
      have HO2 : Hid (wr.ownsRow w3.heap.size 37 3 _ k (shs (T.take k))) := hide (by have := HO.out; unfold Os at this; rw [hlk] at this; exact this)
      obtain ⟨av, cv, rfl⟩ := own_shape HO2.out
      have hLk := hide hlk
      have HNk := hide hN
      have hwz := HBk.out.size
      clear hN hlk HO hx
      obtain ⟨xs, xw, xp⟩ := x
      dsimp only at c0 c1 c2
      go_wp2_with (refine wpList_append_own _ rfl (.tmp 35) (.tmp 40) 33 rfl w3.heap.size 37 i37 _ 3 24 Try.underlying33 HI.out.1 HI.out.2.1 HI.out.2.2.1 HI.out.2.2.2 rfl (by decide) _ k _ rfl (World.ownsRow.alloc HO2.out _) (⟨wr.heap.size, 0, none⟩) 1 1 [.int .i64 xs, .int .i64 xw, .int .i64 xp] rfl rfl (cell_row_new _ #[.int .i64 xs, .int .i64 xw, .int .i64 xp] _) (by simp [Value.oneCell']) (by unfold maxLen; omega) (by omega) (by simp; omega) ?_; intro v' w6 hown hg6 _)
      have HB6 : Hid (Below w3.heap.size w3 w6) := hide ((HBk.out.alloc HBk.out.size _).grown hg6 (by simp; omega) (fun j hj => (World.ownsRow.lt HO2.out j hj).1))
      have HO6 := hide hown
      clear hg6 hown
      go_roundw
      case rel =>
        refine ⟨k + 1, by omega, by go_num, hide ?_, HB6⟩
        have h9 := HO6.out
        unfold Os
        rw [← HNk.out, shs_snoc, List.length_append, hLk.out]
        exact h9
      case measure => simp [RowKit.intOf]; omega
    · obtain rfl : k = m := by omega
      have HKp : Hid (Os wr w3.heap.size u7 T) := hide (by have := HO.out; rw [← HM.out, List.take_length] at this; exact this)
      obtain ⟨ak, ck, rfl⟩ : ∃ a c, u7 = .slice a k c := by
        obtain ⟨a, c, h⟩ := own_shape HKp.out
        exact ⟨a, c, by rw [h, HM.out]⟩
      have HBw := hide (((HB1.out.trans (HB2.out.mono hs1)).trans (HB3.out.mono (by omega))).trans (HBk.out.mono (by omega)))
      have HP4 := hide (HP3.out.below HBk.out)
      have l1 := World.ownsRow.lt HA.out
      have l2 := World.ownsRow.lt HB.out
      have l3 := World.ownsRow.lt HC.out
      have l4 := World.ownsRow.lt HKp.out
      have HLt := hide (And.intro l1 (And.intro l2 (And.intro l3 l4)))
      have HA4 : Hid (wr.ownsRow w.heap.size 37 3 (.slice aa k ca) k (shs (wiped T 0))) := hide (by have := ownsRow_keepB HA.out (w' := wr) (fun b hb => by have := (l1 b hb).2; rw [HBk.out.block b (by omega), HB3.out.block b (by omega), HB2.out.block b (by omega)]); rw [HM.out] at this; exact this)
      have HB4 : Hid (wr.ownsRow w.heap.size 37 3 (.slice ab k cb) k (shs T)) := hide (own_low (by have := ownsRow_keepB HB.out (w' := wr) (fun b hb => by have := (l2 b hb).2; rw [HBk.out.block b (by omega), HB3.out.block b (by omega)]); rw [HM.out] at this; exact this) hs1)
      have HC4 : Hid (wr.ownsRow w2.heap.size 37 3 (.slice ac k cc) k (shs T)) := hide (by have := ownsRow_keepB HC.out (w' := wr) (fun b hb => by have := (l3 b hb).2; rw [HBk.out.block b (by omega)]); rw [HM.out] at this; exact this)
      have hw4 : w3.heap.size ≤ wr.heap.size := HBk.out.size
      clear HO HBk HA HB HC HB1 HB2 HB3 HP3 l1 l2 l3 l4 HN
      have HKp4 : Hid (wr.ownsRow w3.heap.size 37 3 (.slice ak k ck) k (shs T)) := hide (by have := HKp.out; unfold Os at this; rw [HM.out] at this; exact this)
      clear HKp
      obtain ⟨w4, hw4e⟩ : ∃ z, z = wr := ⟨_, rfl⟩
      rw [← hw4e] at HBw HP4 HA4 HB4 HC4 HKp4 HLt hw4 ⊢
      clear hw4e
      go_upto_region 13 with fail
      go_loopw [9] (fun i wq => ∃ j : Nat, j ≤ k ∧ i = .int .i64 (j : Nat) ∧ Hid (wq.ownsRow w.heap.size 37 3 (.slice aa k ca) k (shs (wiped T j))) ∧ Hid (Mod (fun b => (Value.slice aa k ca).ownBlock = some b) w4 wq)) (fun i _ => k - (RowKit.intOf i).toNat)
      case atStart => exact ⟨0, by omega, rfl, HA4, hide (Mod.refl _ _)⟩
      case round =>
        obtain ⟨j, hj, rfl, HO, HMo⟩ := hrel
        by_cases hlt : j < k
        · have hki : (j : Int) < k := by omega
          obtain ⟨ga, rfl⟩ : ∃ ga, aa = some ⟨ga, 0, none⟩ := by
            rcases HO.out.2 with ⟨h1, h2⟩ | ⟨ga, cap, cur, h1, _⟩
            · omega
            · cases h1; exact ⟨ga, rfl⟩
          have ht : Hid (wr.there ga (j * 3) 3) := hide (fun q hq => ⟨by
            rw [World.ownsRow.cellAt HO.out (j * 3 + q) (by omega), List.getElem?_eq_getElem (by rw [shs_len, wiped_len (by rw [HM.out]; omega), HM.out]; omega)]
            rfl, World.ownsRow.frozenAt HO.out _⟩)
          have hb9 := World.ownsRow.lt HO.out ga rfl
          have HO9 : Hid ((wr.setCells ga (j * 3) [.int .i64 (-1), .int .i64 0, .int .i64 0]).ownsRow w.heap.size 37 3 (.slice (some ⟨ga, 0, none⟩) k ca) k (shs (wiped T (j + 1)))) := hide (by
            rw [wiped_succ (by rw [HM.out]; exact hlt)]
            exact own_wipe (k := j) ⟨-1, 0, 0⟩ HO.out)
          have HM9 : Hid (Mod (fun b => (Value.slice (some ⟨ga, 0, none⟩) k ca).ownBlock = some b) w4 (wr.setCells ga (j * 3) [.int .i64 (-1), .int .i64 0, .int .i64 0])) := hide (((HMo.out.setCell (p := ⟨ga, j * 3, none⟩) (.inl rfl) _).setCell (p := ⟨ga, j * 3 + 1, none⟩) (.inl rfl) _).setCell (p := ⟨ga, j * 3 + 1 + 1, none⟩) (.inl rfl) _)
          go_wp2_with (refine wpList_store_mid rfl 37 (.tmp 50) (.tmp 49) rfl ga (j * 3) #[.int .i64 (-1), .int .i64 0, .int .i64 0] rfl (by simp only [Act.eval]; rfl) ht.out (by kernel_rfl) (by simp [Value.oneCell']) ?_; generalize wr.setCells ga (j * 3) [.int .i64 (-1), .int .i64 0, .int .i64 0] = w5 at *)
          go_roundw
          case rel => exact ⟨j + 1, by omega, by go_num, HO9, HM9⟩
          case measure => simp [RowKit.intOf]; omega
        · obtain rfl : j = k := by omega
          have l9 := HLt.out
          obtain ⟨Z, hZ⟩ : ∃ Z : Nat → Prop, Z = fun b => b < w.heap.size ∨ (w2.heap.size ≤ b ∧ b < w4.heap.size) := ⟨_, rfl⟩
          have HZ1 : Hid (∀ b, Z b ↔ (b < w.heap.size ∨ (w2.heap.size ≤ b ∧ b < w4.heap.size))) := hide (fun b => by rw [hZ])
          clear hZ
          have hsz := HMo.out.size
          have HSt : Hid (∀ b, Z b → wr.heap[b]? = w4.heap[b]?) := hide (fun b hb => HMo.out.block b (by rcases (HZ1.out b).1 hb with h | h <;> omega) (fun e => by have := l9.1 b e; rcases (HZ1.out b).1 hb with h | h <;> omega))
          have HTw : Hid (Two w.heap.size Z wr 37 3 (.slice aa j ca) j (shs (wiped T j)) 37 3 (.slice ab j cb) j (shs T)) := hide (by
            refine ⟨fun b hb => ?_, HO.out, fun b hb hz => ?_, ownsRow_keepB HB4.out (fun b hb => HMo.out.block b (World.ownsRow.lt HB4.out b hb).2 (fun e => ?_)), fun b hb hz => ?_, fun b hb hb2 => ?_⟩
            · rcases (HZ1.out b).1 hb with h | h <;> omega
            · have := l9.1 b hb
              rcases (HZ1.out b).1 hz with h | h <;> omega
            · have h1 := l9.1 b e
              have h2 := l9.2.1 b hb
              omega
            · have := l9.2.1 b hb
              rcases (HZ1.out b).1 hz with h | h <;> omega
            · have h1 := l9.1 b hb
              have h2 := l9.2.1 b hb2
              omega)
          have HBl : Hid (Below w.heap.size w wr) := hide (HBw.out.trans (HMo.out.below (fun b e => (l9.1 b e).1) HBw.out.size))
          clear l9 HO HA4 HB4 HBw HMo
          have hws : w.heap.size ≤ wr.heap.size := HBl.out.size
          obtain ⟨w5, hw5e⟩ : ∃ z, z = wr := ⟨_, rfl⟩
          rw [← hw5e] at HSt HTw HBl hws hsz ⊢
          clear hw5e
          have HRA : Hid ((wiped T j).length = j) := hide (by rw [wiped_len (by rw [HM.out]; exact Nat.le_refl _), HM.out])
          obtain ⟨RA, hRA⟩ : ∃ RA, wiped T j = RA := ⟨_, rfl⟩
          rw [hRA] at HTw HRA
          have HRw : Hid (RA = List.replicate j ⟨-1, 0, 0⟩) := hide (by rw [← hRA]; have := wiped_all T; rw [HM.out] at this; exact this)
          clear hRA
          go_upto_region 17 with fail
          go_loopw [3, 4, 10] (fun va vb i wq => ∃ q : Nat, q ≤ 64 ∧ i = .int .i64 (q : Nat) ∧ Hid (Two w.heap.size Z wq 37 3 va (j + q) (shs (RA ++ List.replicate q ⟨-2, 0, 0⟩)) 37 3 vb (j + q) (shs (T ++ List.replicate q ⟨-3, 0, 0⟩))) ∧ Hid (Below w.heap.size w wq) ∧ Hid (∀ b, Z b → wq.heap[b]? = w4.heap[b]?)) (fun _ _ i _ => 64 - (RowKit.intOf i).toNat)
          case atStart => exact ⟨0, by omega, rfl, hide (by simpa using HTw.out), HBl, HSt⟩
          case round =>
            obtain ⟨q, hq, rfl, HT2, HB2, HS2⟩ := hrel
            by_cases hlt : q < 64
            · have hqi : (q : Int) < 64 := by omega
              have hwq : w.heap.size ≤ wr.heap.size := HB2.out.size
              obtain ⟨a3, c3, rfl⟩ := own_shape HT2.out.r1
              obtain ⟨a4, c4, rfl⟩ := own_shape HT2.out.r2
              go_upto_region 20 with (refine wpList_append_own_at _ rfl (.tmp 55) (.tmp 57) 33 rfl w.heap.size 37 i37 _ 3 24 Try.underlying33 HI.out.1 HI.out.2.1 HI.out.2.2.1 HI.out.2.2.2 rfl (by decide) _ (j + q) _ rfl (World.ownsRow.alloc HT2.out.r1 _) (⟨wr.heap.size, 0, none⟩) 1 1 [.int .i64 (-2), .int .i64 0, .int .i64 0] rfl rfl (cell_row_new _ #[.int .i64 (-2), .int .i64 0, .int .i64 0] _) (by simp [Value.oneCell']) (by unfold maxLen; omega) (by omega) (by simp; omega) ?_; intro v' w6 hown hg6 _ hat)
              have hadd := HT2.out.add hwq hown hg6 hat
              have HT3 := hide hadd.1
              have HS3 : Hid (∀ b, Z b → w6.heap[b]? = w4.heap[b]?) := hide (fun b hb => (hadd.2.1 b hb).trans (HS2.out b hb))
              have HB3 := hide (HB2.out.trans (hadd.2.2))
              have hwq3 : w.heap.size ≤ w6.heap.size := HB3.out.size
              obtain ⟨a5, c5, rfl⟩ := own_shape hown
              clear hadd hown hg6 hat HT2 HS2 HB2
              go_wp2_with (refine wpList_append_own_at _ rfl (.tmp 59) (.tmp 61) 33 rfl w.heap.size 37 i37 _ 3 24 Try.underlying33 HI.out.1 HI.out.2.1 HI.out.2.2.1 HI.out.2.2.2 rfl (by decide) _ (j + q) _ rfl (World.ownsRow.alloc HT3.out.r2 _) (⟨w6.heap.size, 0, none⟩) 1 1 [.int .i64 (-3), .int .i64 0, .int .i64 0] rfl rfl (cell_row_new _ #[.int .i64 (-3), .int .i64 0, .int .i64 0] _) (by simp [Value.oneCell']) (by unfold maxLen; omega) (by omega) (by simp; omega) ?_; intro v7 w7 hown hg6 _ hat)
              have hadd := HT3.out.swap.add hwq3 hown hg6 hat
              have HT4 := hide hadd.1.swap
              have HS4 : Hid (∀ b, Z b → w7.heap[b]? = w4.heap[b]?) := hide (fun b hb => (hadd.2.1 b hb).trans (HS3.out b hb))
              have HB4 := hide (HB3.out.trans (hadd.2.2))
              clear hadd hown hg6 hat HT3 HS3 HB3
              go_roundw
              case rel =>
                refine ⟨q + 1, by omega, by go_num, hide ?_, HB4, HS4⟩
                have h9 := HT4.out
                rw [List.replicate_succ', List.replicate_succ', ← List.append_assoc, ← List.append_assoc, shs_snoc, shs_snoc]
                exact h9
              case measure => simp [RowKit.intOf]; omega
            · obtain rfl : q = 64 := by omega
              have l9 := HLt.out
              have HAs : Hid (Os wr w.heap.size u3 (RA ++ List.replicate 64 ⟨-2, 0, 0⟩)) := hide (by
                have h9 := HT2.out.r1
                unfold Os
                rw [List.length_append, List.length_replicate, HRA.out]
                exact h9)
              have HBs : Hid (Os wr w.heap.size u4 (T ++ List.replicate 64 ⟨-3, 0, 0⟩)) := hide (by
                have h9 := HT2.out.r2
                unfold Os
                rw [List.length_append, List.length_replicate, HM.out]
                exact h9)
              obtain ⟨a3, c3, rfl⟩ : ∃ a c, u3 = .slice a (j + 64) c := by
                obtain ⟨a, c, h⟩ := own_shape HT2.out.r1
                exact ⟨a, c, h⟩
              obtain ⟨a4, c4, rfl⟩ : ∃ a c, u4 = .slice a (j + 64) c := by
                obtain ⟨a, c, h⟩ := own_shape HT2.out.r2
                exact ⟨a, c, h⟩
              have HCs : Hid (Os wr w2.heap.size (.slice ac j cc) T) := hide (by
                have h9 := ownsRow_keepB HC4.out (w' := wr) (fun b hb => HS2.out b ((HZ1.out b).2 (.inr ⟨(World.ownsRow.lt HC4.out b hb).1, (World.ownsRow.lt HC4.out b hb).2⟩)))
                unfold Os
                rw [HM.out]
                exact h9)
              have HKs : Hid (Os wr w3.heap.size (.slice ak j ck) T) := hide (by
                have h9 := ownsRow_keepB HKp4.out (w' := wr) (fun b hb => HS2.out b ((HZ1.out b).2 (.inr ⟨Nat.le_trans hs3 (World.ownsRow.lt HKp4.out b hb).1, (World.ownsRow.lt HKp4.out b hb).2⟩)))
                unfold Os
                rw [HM.out]
                exact h9)
              have HP6 := hide (HP0.out.below HB2.out)
              have HBf := hide HB2.out
              clear HT2 HS2 HB2 HC4 HKp4 HP4 HLt HTw HSt HBl HP0 HZ1 l9
              have hw6 : w.heap.size ≤ wr.heap.size := HBf.out.size
              have HW2 : Hid (∀ {v : Value} {l : List Sh} {base : Nat}, Os wr base v l → ShR (fun b => b < wr.heap.size) wr v l) := hide (fun h => h.shr.mono (fun b hb => hb.2))
              obtain ⟨w6, hw6e⟩ : ∃ z, z = wr := ⟨_, rfl⟩
              rw [← hw6e] at HAs HBs HCs HKs HP6 HBf HW2 hw6 ⊢
              clear hw6e
              go_upto_region 22 with fail
              go_loopw [11] (fun i wq => ∃ q : Nat, q ≤ j ∧ i = .int .i64 (q : Nat) ∧ Hid (Drews w6 wq)) (fun i _ => j - (RowKit.intOf i).toNat)
              case atStart => exact ⟨0, by omega, rfl, hide (Drews.refl _)⟩
              case round =>
                obtain ⟨q, hq, rfl, HD⟩ := hrel
                by_cases hlt : q < j
                · obtain ⟨x, hx⟩ : ∃ x, T[q]? = some x := ⟨T[q]'(by rw [HM.out]; exact hlt), List.getElem?_eq_getElem _⟩
                  have hxa : (RA ++ List.replicate 64 (⟨-2, 0, 0⟩ : Sh))[q]? = some ⟨-1, 0, 0⟩ := by
                    rw [List.getElem?_append_left (by rw [HRA.out]; exact hlt), HRw.out, List.getElem?_replicate, if_pos hlt]
                  have hxb : (T ++ List.replicate 64 (⟨-3, 0, 0⟩ : Sh))[q]? = some x := by
                    rw [List.getElem?_append_left (by rw [HM.out]; exact hlt)]; exact hx
                  obtain ⟨ya, rfl, _, a0, _, _⟩ := ((HW2.out HAs.out).keep (w' := wr) (fun b _ => by rw [HD.out.heap])).at hxa
                  obtain ⟨yb, rfl, _, b0, b1, b2⟩ := ((HW2.out HBs.out).keep (w' := wr) (fun b _ => by rw [HD.out.heap])).at hxb
                  obtain ⟨yc, rfl, _, c0, c1, c2⟩ := ((HW2.out HCs.out).keep (w' := wr) (fun b _ => by rw [HD.out.heap])).at hx
                  obtain ⟨yk, rfl, _, k0, k1, k2⟩ := ((HW2.out HKs.out).keep (w' := wr) (fun b _ => by rw [HD.out.heap])).at hx
                  have hki : (q : Int) < j := by omega
                  have hkj : (q : Int) < (j : Int) + 64 := by omega
                  obtain ⟨xs, xw, xp⟩ := x
                  dsimp only at a0 b0 b1 b2 c0 c1 c2 k0 k1 k2
                  clear hx hxa hxb
                  go_upto_region 24 with fail
                  go_quiet (fail)
                  have HD2 : Hid (Drews w6 (wr.drewN nq)) := hide (HD.out.trans ⟨nq, rfl⟩)
                  clear a0 b0 b1 b2 c0 c1 c2 k0 k1 k2 HD
                  go_wp2
                  go_roundw
                  case rel => exact ⟨q + 1, by omega, by go_num, HD2⟩
                  case measure => simp [RowKit.intOf]; omega
                · obtain rfl : q = j := by omega
                  have hxa : (RA ++ List.replicate 64 (⟨-2, 0, 0⟩ : Sh))[q]? = some ⟨-2, 0, 0⟩ := by
                    rw [List.getElem?_append_right (by rw [HRA.out]; exact Nat.le_refl _), HRA.out, Nat.sub_self]; rfl
                  have hxb : (T ++ List.replicate 64 (⟨-3, 0, 0⟩ : Sh))[q]? = some ⟨-3, 0, 0⟩ := by
                    rw [List.getElem?_append_right (by rw [HM.out]; exact Nat.le_refl _), HM.out, Nat.sub_self]; rfl
                  obtain ⟨ya, rfl, _, a0, _, _⟩ := ((HW2.out HAs.out).keep (w' := wr) (fun b _ => by rw [HD.out.heap])).at hxa
                  obtain ⟨yb, rfl, _, b0, _, _⟩ := ((HW2.out HBs.out).keep (w' := wr) (fun b _ => by rw [HD.out.heap])).at hxb
                  have HCr := hide ((HW2.out HCs.out).keep (w' := wr) (fun b _ => by rw [HD.out.heap]))
                  have HKr := hide ((HW2.out HKs.out).keep (w' := wr) (fun b _ => by rw [HD.out.heap]))
                  have HP7 := hide (HP6.out.below (HD.out.below _))
                  have HB7 := hide (HBf.out.trans (HD.out.below _))
                  have hwz : w6.heap.size = wr.heap.size := by rw [HD.out.heap]
                  have hqj : (q : Int) < (q : Int) + 64 := by omega
                  dsimp only at a0 b0
                  clear hxa hxb HD HP6 HAs HBs HCs HKs HW2
                  go_wp2_with fail
                  refine (sameShares_any wr _ _ _ T HCr.out HKr.out (by rw [HM.out]; omega)).mono ?_
                  rintro e w8 ⟨rfl, hd⟩
                  have HP8 := hide (HP7.out.below (hd.below _))
                  have HB8 := hide (HB7.out.trans (hd.below _))
                  have HKr8 := hide (HKr.out.keep (w' := w8) (fun b _ => by rw [hd.heap]))
                  have hwz8 : w8.heap.size = wr.heap.size := by rw [hd.heap]
                  clear hd HP7 HB7 HCr HKr
                  go_wp2_with fail
                  refine (Told_any w8 g n X s HP8.out (by omega)).mono ?_
                  rintro e w9 ⟨vt, kt, rfl, t1, t2, t3, _, t5⟩
                  obtain rfl : kt = kc := told_uniq t2 HK.out.1 t3 HK.out.2
                  rw [HT.out] at t1
                  have HT9 := hide (t1.shr.mono (S' := fun b => b < w9.heap.size) (fun b hb => hb.2))
                  have hw98 := t5.size
                  have HKr9 := hide ((HKr8.out.keep (w' := w9) (fun b hb => t5.block b (by omega))).mono (S' := fun b => b < w9.heap.size) (fun b hb => by omega))
                  have HB9 := hide (HB8.out.trans (t5.mono (by omega)))
                  clear t1 t2 t3 t5 HP8 HB8 HKr8
                  go_wp2_with fail
                  refine (sameShares_any w9 _ _ _ T HT9.out HKr9.out (by rw [HM.out]; omega)).mono ?_
                  rintro e w10 ⟨rfl, hd⟩
                  have HB10 := hide (HB9.out.trans (hd.below _))
                  clear hd
                  go_wp2
                  go_ret
                  exact ⟨rfl, HB10.out⟩
end
end Go.Proofs.Ytngmnlmagbfijaa
