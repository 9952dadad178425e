import Derived.Test.YtdeilmllgbajbaaBD
import Derived.Test.YtdeilmllgbajbaaO1
namespace Go.Proofs.Ytdeilmllgbajbaa
open Go.RowKit

theorem add_pos (a : Addr) (i : Nat) (h : i ≠ 0) : a.add i = ⟨a.block, a.off + i, none⟩ := by
  unfold Addr.add; rw [if_neg h]
theorem quad_at {w wr : World} {a1 : Option Addr} {len : Nat} {Z : Nat → Int × Int × Int × Int} (h : IsQuads w a1 len Z) (hb : Below w.heap.size w wr) {k : Nat} (hk : k < len) :
    ∃ x, a1 = some x ∧ wr.cell? (x.add (k * 4)) = some (.int .i64 (Z k).1) ∧ wr.cell? ⟨(x.add (k * 4)).block, (x.add (k * 4)).off + 1, none⟩ = some (.int .i64 (Z k).2.1) ∧ wr.cell? ⟨(x.add (k * 4)).block, (x.add (k * 4)).off + 2, none⟩ = some (.int .i64 (Z k).2.2.1) ∧ wr.cell? ⟨(x.add (k * 4)).block, (x.add (k * 4)).off + 3, none⟩ = some (.int .i64 (Z k).2.2.2) := by
  obtain ⟨x, rfl, h0, h1, h2, h3⟩ := h k hk
  have keep : ∀ (p : Addr) (v : Value), w.cell? p = some v → wr.cell? p = some v := fun p v hv => by
    have hl : p.block < w.heap.size := by
      rcases Nat.lt_or_ge p.block w.heap.size with h | h
      · exact h
      · exfalso; simp [World.cell?, Array.getElem?_eq_none h] at hv
    exact (hb.cell hl).trans hv
  have e : ∀ i, i ≠ 0 → x.add (k * 4 + i) = ⟨(x.add (k * 4)).block, (x.add (k * 4)).off + i, none⟩ := fun i hi => by
    rw [← Go.Deep.add_add, add_pos _ _ hi]
  rw [e 1 (by decide)] at h1
  rw [e 2 (by decide)] at h2
  rw [e 3 (by decide)] at h3
  exact ⟨x, rfl, keep _ _ h0, keep _ _ h1, keep _ _ h2, keep _ _ h3⟩
theorem row4 {w : World} {b : Nat} {x0 x1 x2 x3 : Value} {t : TypeId} (h : w.heap[b]? = some (.cells #[x0, x1, x2, x3] t)) :
    w.cell? ⟨b, 0, none⟩ = some x0 ∧ w.cell? ⟨b, 1, none⟩ = some x1 ∧ w.cell? ⟨b, 2, none⟩ = some x2 ∧ w.cell? ⟨b, 3, none⟩ = some x3 :=
  ⟨by rw [cell_of_row _ _ _ _ _ _ h]; rfl, by rw [cell_of_row _ _ _ _ _ _ h]; rfl, by rw [cell_of_row _ _ _ _ _ _ h]; rfl, by rw [cell_of_row _ _ _ _ _ _ h]; rfl⟩
/-- a tie that is written, and another beside it that is not; V is what else is told of the world -/
structure Wt (w W : World) (F : Nat → Prop) (X : Nat) (L : List (Int × Int)) : Prop where
  tp : TP W F X L
  ti : Tight L
  bel : Below w.heap.size w W
section
variable {w W W' : World} {F : Nat → Prop} {X : Nat} {L : List (Int × Int)}
theorem Wt.below (h : Wt w W F X L) (hb : Below W.heap.size W W') : Wt w W' F X L := ⟨h.tp.below hb, h.ti, h.bel.trans (hb.mono h.bel.size)⟩
theorem Wt.tie (h : Wt w W F X L) (lo : ∀ b, F b → w.heap.size ≤ b) (a b : Int) : Calls Try.prog 7 #[.pointer (some ⟨X, 0, none⟩), .int .i64 a, (cl b).val] W fun x W' => x = .returned (.bool (tieR L a b)) ∧ Wt w W' F X (tieL L a b) ∧ Ext F W F W' := by
  refine (tieP_L h.tp a b).mono ?_
  rintro x W' ⟨rfl, hT, hx⟩
  exact ⟨rfl, ⟨hT, h.ti.tie a b, h.bel.trans (hx.mod.below lo h.bel.size)⟩, hx⟩
theorem Wt.cut (h : Wt w W F X L) (lo : ∀ b, F b → w.heap.size ≤ b) (a : Int) : Calls Try.prog 9 #[.pointer (some ⟨X, 0, none⟩), .int .i64 a] W fun x W' => x = .returned (.bool (atI L a).isSome) ∧ Wt w W' F X (cutL L a) ∧ Ext F W F W' := by
  refine (cutP_L h.tp h.ti a).mono ?_
  rintro x W' ⟨rfl, hT, hx⟩
  exact ⟨rfl, ⟨hT, h.ti.cut a, h.bel.trans (hx.mod.below lo h.bel.size)⟩, hx⟩
end
/-- the tie, the tie the other way round, and that again -/
structure Th (w W : World) (FX FT FU : Nat → Prop) (X T U : Nat) (L M : List (Int × Int)) : Prop where
  hX : Wt w W FX X L
  hT : TQ W FT T (sw L)
  hU : Wt w W FU U M
  dX : ∀ x, FX x → ¬ FU x
  dT : ∀ x, FT x → ¬ FU x
section
variable {w W W' : World} {FX FT FU : Nat → Prop} {X T U : Nat} {L M M' : List (Int × Int)}
theorem Th.below (h : Th w W FX FT FU X T U L M) (hb : Below W.heap.size W W') : Th w W' FX FT FU X T U L M := ⟨h.hX.below hb, h.hT.below hb, h.hU.below hb, h.dX, h.dT⟩
theorem Th.ext (h : Th w W FX FT FU X T U L M) (hU : Wt w W' FU U M') (hx : Ext FU W FU W') : Th w W' FX FT FU X T U L M' :=
  ⟨⟨h.hX.tp.apart hx h.dX, h.hX.ti, hU.bel⟩, h.hT.apart hx h.dT, hU, h.dX, h.dT⟩
end
theorem sw_length (L : List (Int × Int)) : (sw L).length = L.length := by simp [sw]
set_option maxRecDepth 8000 in
set_option maxHeartbeats 3200000 in
theorem turn_walk (a1 : Option Addr) (len1 cap1 : Nat) (Z1 : Nat → Int × Int × Int × Int) (a2 : Option Addr) (len2 cap2 : Nat) (Z2 : Nat → Int × Int × Int × Int) (w : World) (hlen1 : len1 ≤ maxLen) (hZ1 : IsQuads w a1 len1 Z1) (hlen2 : len2 ≤ maxLen) (hZ2 : IsQuads w a2 len2 Z2) :
    Calls Try.prog 3 #[.slice a1 len1 cap1, .slice a2 len2 cap2] w fun e w' => e = .returned (.bool true) ∧ Below w.heap.size w w' := by
  have HZ1 := hide hZ1
  have HZ2 := hide hZ2
  have hl1 : len1 ≤ 9223372036854775807 := hlen1
  have hl2 : len2 ≤ 9223372036854775807 := hlen2
  have h26 := eq26'
  clear hZ1 hZ2 hlen1 hlen2
  go_enter Try.func3, Try.ntmps3
  go_wp2_with fail
  refine (tied_any w).mono ?_
  rintro e w0 ⟨rfl, hb0⟩
  have HB0 := hide hb0
  clear hb0
  go_wp2_with fail
  refine (newP_any w0).mono ?_
  rintro e w1 ⟨rfl, hT1, hb1⟩
  obtain ⟨FX, hFX⟩ : ∃ F : Nat → Prop, F = (fun b => b = w0.heap.size ∨ b = w0.heap.size + 1 ∨ b = w0.heap.size + 2) := ⟨_, rfl⟩
  rw [← hFX] at hT1
  have HLo : Hid (∀ b, FX b → w.heap.size ≤ b) := hide (fun b hb => by rw [hFX] at hb; have := HB0.out.size; omega)
  have HW1 : Hid (Wt w w1 FX (w0.heap.size + 2) []) := hide ⟨hT1, Tight.nil, HB0.out.trans (hb1.mono HB0.out.size)⟩
  clear hT1 hb1 hFX HB0
  generalize w0.heap.size + 2 = X at *
  go_wp2_with fail
  refine (cell_agg _ 2).mono ?_
  rintro e w2 ⟨rfl, hb2⟩
  have HW2 := hide (HW1.out.below hb2)
  clear hb2 HW1
  go_wp2_with fail
  refine (HW2.out.tie HLo.out 1 2).mono ?_
  rintro e w3 ⟨rfl, hw, _⟩
  have HW3 := hide hw
  clear hw HW2
  go_wp2
  go_loopw [6] (fun i wr => ∃ (k : Nat) (L : List (Int × Int)), k ≤ len1 ∧ i = .int .i64 k ∧ Hid (Wt w wr FX X L)) (fun i _ => len1 - (intOf i).toNat)
  case atStart => exact ⟨0, _, by omega, rfl, HW3⟩
  case round =>
    clear HW3
    obtain ⟨k, L, hk, rfl, HW⟩ := hrel
    by_cases hlt : k < len1
    · obtain ⟨x, rfl, z0, z1, z2, z3⟩ := quad_at HZ1.out HW.out.bel hlt
      go_upto_region 11 with fail
      have hB1 := (Below.refl wr.heap.size wr).alloc (Nat.le_refl _) (.cells #[.int .i64 (Z1 k).1, .int .i64 (Z1 k).2.1, .int .i64 (Z1 k).2.2.1, .int .i64 (Z1 k).2.2.2] 32)
      have HW1 := hide (HW.out.below hB1)
      have bo := heap_alloc_new wr (.cells #[.int .i64 (Z1 k).1, .int .i64 (Z1 k).2.1, .int .i64 (Z1 k).2.2.1, .int .i64 (Z1 k).2.2.2] 32)
      have HFl : Hid (∀ b, FX b → b < wr.heap.size) := hide HW.out.tp.lt
      clear HW hB1 z0 z1 z2 z3
      obtain ⟨o0, o1, o2, o3⟩ := row4 bo
      generalize wr.alloc (.cells #[.int .i64 (Z1 k).1, .int .i64 (Z1 k).2.1, .int .i64 (Z1 k).2.2.1, .int .i64 (Z1 k).2.2.2] 32) = wB at *
      generalize (Z1 k).1 = kd at *
      generalize (Z1 k).2.1 = tt at *
      generalize (Z1 k).2.2.1 = za at *
      generalize (Z1 k).2.2.2 = zb at *
      have Hbo := hide bo
      by_cases k1 : kd = 1
      · subst k1
        clear bo
        have HBd : Hid (Below wB.heap.size wB wB.drew) := hide (Below.refl _ _).drew
        go_wp2_with fail
        go_region_held (fun W => W.cell? ⟨wr.heap.size, 2, none⟩ = some (.int .i64 za) ∧ W.cell? ⟨wr.heap.size, 3, none⟩ = some (.int .i64 zb))
          (first | assumption | exact q8 | exact q9 | exact And.intro o2 o3)
          (first
            | (go_at_call 8; refine (cell_agg _ zb).mono ?_; rintro e w8 ⟨rfl, hb8⟩
               have HB8 := hide (HBd.out.trans (hb8.mono HBd.out.size))
               have b8 := (HB8.out.block _ (Array.getElem?_eq_some_iff.1 Hbo.out).1).trans Hbo.out
               have q8 := And.intro (row4 b8).2.2.1 (row4 b8).2.2.2
               have Hb8 := hide b8
               clear hb8 b8)
            | (go_at_call 7; refine ((HW1.out.below HB8.out).tie HLo.out za zb).mono ?_; rintro e w9 ⟨rfl, hw9, hx9⟩
               have HW9 := hide (hw9)
               have b9 := (hx9.mod.block _ (Array.getElem?_eq_some_iff.1 Hb8.out).1 (fun hf => by have := HFl.out _ hf; omega)).trans Hb8.out
               have q9 := And.intro (row4 b9).2.2.1 (row4 b9).2.2.2
               clear hw9 hx9 b9))
        clear q8 q9 Hb8 HB8 HBd Hbo HW1 o0 o1 o2 o3
        go_wp2
        go_roundw
        case rel => exact ⟨k + 1, _, by omega, by go_num, HW9⟩
        case measure => simp [intOf]; omega
      · have n1 : (kd == 1) = false := by simp [k1]
        clear k1 bo
        by_cases k4 : kd = 4
        · subst k4
          go_wp2_with fail
          refine (HW1.out.cut HLo.out za).mono ?_
          rintro e w9 ⟨rfl, hw9, hx9⟩
          have HW9 := hide (hw9)
          clear hw9 hx9 Hbo HW1 o0 o1 o2 o3
          go_wp2
          go_roundw
          case rel => exact ⟨k + 1, _, by omega, by go_num, HW9⟩
          case measure => simp [intOf]; omega
        · have n4 : (kd == 4) = false := by simp [k4]
          clear k4
          go_wp2
          go_roundw
          case rel => exact ⟨k + 1, _, by omega, by go_num, HW1⟩
          case measure => simp [intOf]; omega
    · have HW5 := HW
      clear HW
      generalize wr = wa at *
      go_wp2_with fail
      refine (turnP_L HW5.out.tp).mono ?_
      rintro e w5 ⟨T, FT, rfl, hT5, hlo5, hb5⟩
      have HW6 := hide (HW5.out.below hb5)
      have HT6 := hide hT5
      have HLt6 := hide (hT5.lt)
      have HLo6 : Hid (∀ b, FT b → w.heap.size ≤ b) := hide (fun b hb => Nat.le_trans HW5.out.bel.size (hlo5 b hb))
      clear hT5 hlo5 hb5 HW5
      have HLL := hide (sw_length L)
      go_wp2_with fail
      refine (lenQ_L HT6.out).mono ?_
      rintro e w6 ⟨rfl, rfl⟩
      rw [HLL.out]
      go_wp2_with fail
      refine (lenP_L HW6.out.tp).mono ?_
      rintro e w7 ⟨rfl, rfl⟩
      go_wp2_with fail
      refine (turnQ_L HT6.out).mono ?_
      rintro e w8 ⟨U, FU, rfl, hU8, hlo8, hb8⟩
      rw [sw_sw] at hU8
      have HLoU : Hid (∀ b, FU b → w.heap.size ≤ b) := hide (fun b hb => Nat.le_trans HW6.out.bel.size (hlo8 b hb))
      have HTh : Hid (Th w w8 FX FT FU X T U L L) := hide ⟨HW6.out.below hb8, HT6.out.below hb8, ⟨hU8, HW6.out.ti, HW6.out.bel.trans (hb8.mono HW6.out.bel.size)⟩, fun x h1 h2 => by have := HW6.out.tp.lt x h1; have := hlo8 x h2; omega, fun x h1 h2 => by have := HLt6.out x h1; have := hlo8 x h2; omega⟩
      clear hU8 hlo8 hb8 HW6 HT6 HLt6 HLo6
      go_wp2_with fail
      refine (lenP_L HTh.out.hU.tp).mono ?_
      rintro e w9 ⟨rfl, rfl⟩
      go_wp2_with fail
      refine (lenP_L HTh.out.hX.tp).mono ?_
      rintro e w10 ⟨rfl, rfl⟩
      go_wp2_with fail
      refine (lenP_L HTh.out.hX.tp).mono ?_
      rintro e w11 ⟨rfl, rfl⟩
      go_wp2
      obtain ⟨N, hN⟩ : ∃ N, L.length = N := ⟨_, rfl⟩
      have HNL := hide hN
      rw [hN]
      clear hN
      go_loopw [11] (fun i wr => ∃ k : Nat, k ≤ len1 ∧ i = .int .i64 k ∧ Hid (Th w wr FX FT FU X T U L L)) (fun i _ => len1 - (intOf i).toNat)
      case atStart => exact ⟨0, by omega, rfl, HTh⟩
      case round =>
        clear HTh
        obtain ⟨k, hk, rfl, HT⟩ := hrel
        by_cases hlt : k < len1
        · obtain ⟨x, rfl, z0, z1, z2, z3⟩ := quad_at HZ1.out HT.out.hX.bel hlt
          obtain ⟨c, hc⟩ : ∃ c, ((atI L (Z1 k).2.2.1).map cl).getD Cl.zero = c := ⟨_, rfl⟩
          have HC := hide hc
          clear hc z0 z1 z3
          go_wp2_with fail
          refine (toP_L HT.out.hX.tp (Z1 k).2.2.1).mono ?_
          rintro e w7 ⟨rfl, hb7⟩
          rw [HC.out]
          simp only [Cl.val]
          have HT7 := hide ((HT.out.below hb7).below ((Below.refl w7.heap.size w7).alloc (Nat.le_refl _) (.cells #[.string c.s, .int .i64 c.a, .int .i64 c.b] 28)))
          have bc7 := heap_alloc_new w7 (.cells #[.string c.s, .int .i64 c.a, .int .i64 c.b] 28)
          have hs7 : w7.heap.size < (w7.alloc (.cells #[.string c.s, .int .i64 c.a, .int .i64 c.b] 28)).heap.size := by simp
          clear hb7 HT z2
          obtain ⟨x', hx', _, _, z2, _⟩ := quad_at HZ1.out HT7.out.hX.bel hlt
          cases hx'
          go_wp2_with fail
          generalize w7.alloc (.cells #[.string c.s, .int .i64 c.a, .int .i64 c.b] 28) = w8 at *
          refine (toP_L HT7.out.hU.tp (Z1 k).2.2.1).mono ?_
          rintro e w9 ⟨rfl, hb9⟩
          rw [HC.out]
          simp only [Cl.val]
          have HT9 := hide ((HT7.out.below hb9).below ((Below.refl w9.heap.size w9).alloc (Nat.le_refl _) (.cells #[.string c.s, .int .i64 c.a, .int .i64 c.b] 28)))
          have bc9 := (Below.heap_alloc w9 (.cells #[.string c.s, .int .i64 c.a, .int .i64 c.b] 28) _ (by have := hb9.size; omega)).trans ((hb9.block _ hs7).trans bc7)
          obtain ⟨q0, q1, q2, _, _, _⟩ := blk3 bc9
          obtain ⟨r0, r1, r2, _, _, _⟩ := blk3 (heap_alloc_new w9 (.cells #[.string c.s, .int .i64 c.a, .int .i64 c.b] 28))
          clear hb9 HT7 z2 bc7 bc9 hs7
          generalize (atI L (Z1 k).2.2.1).isSome = bb at *
          go_upto_region 28 with fail
          generalize w9.alloc (.cells #[.string c.s, .int .i64 c.a, .int .i64 c.b] 28) = wz at *
          go_wp2
          go_roundw
          case rel => exact ⟨k + 1, by omega, by go_num, HT9⟩
          case measure => simp [intOf]; omega
        · have HT5 := HT
          clear HT
          generalize wr = wc at *
          go_wp2
          go_loopw [16] (fun i wr => ∃ (k : Nat) (M : List (Int × Int)), k ≤ len2 ∧ i = .int .i64 k ∧ Hid (Th w wr FX FT FU X T U L M)) (fun i _ => len2 - (intOf i).toNat)
          case atStart => exact ⟨0, _, by omega, rfl, HT5⟩
          case round =>
            clear HT5
            obtain ⟨k, M, hk, rfl, HW⟩ := hrel
            by_cases hlt : k < len2
            · obtain ⟨x, rfl, z0, z1, z2, z3⟩ := quad_at HZ2.out HW.out.hX.bel hlt
              go_upto_region 34 with fail
              have hB1 := (Below.refl wr.heap.size wr).alloc (Nat.le_refl _) (.cells #[.int .i64 (Z2 k).1, .int .i64 (Z2 k).2.1, .int .i64 (Z2 k).2.2.1, .int .i64 (Z2 k).2.2.2] 32)
              have HW1 := hide (HW.out.below hB1)
              have bo := heap_alloc_new wr (.cells #[.int .i64 (Z2 k).1, .int .i64 (Z2 k).2.1, .int .i64 (Z2 k).2.2.1, .int .i64 (Z2 k).2.2.2] 32)
              have HFl : Hid (∀ b, FU b → b < wr.heap.size) := hide HW.out.hU.tp.lt
              clear HW hB1 z0 z1 z2 z3
              obtain ⟨o0, o1, o2, o3⟩ := row4 bo
              generalize wr.alloc (.cells #[.int .i64 (Z2 k).1, .int .i64 (Z2 k).2.1, .int .i64 (Z2 k).2.2.1, .int .i64 (Z2 k).2.2.2] 32) = wB at *
              generalize (Z2 k).1 = kd at *
              generalize (Z2 k).2.1 = tt at *
              generalize (Z2 k).2.2.1 = za at *
              generalize (Z2 k).2.2.2 = zb at *
              have Hbo := hide bo
              by_cases k1 : kd = 1
              · subst k1
                clear bo
                have HBd : Hid (Below wB.heap.size wB wB.drew) := hide (Below.refl _ _).drew
                go_wp2_with fail
                go_region_held (fun W => W.cell? ⟨wr.heap.size, 2, none⟩ = some (.int .i64 za) ∧ W.cell? ⟨wr.heap.size, 3, none⟩ = some (.int .i64 zb))
                  (first | assumption | exact q8 | exact q9 | exact And.intro o2 o3)
                  (first
                    | (go_at_call 8; refine (cell_agg _ zb).mono ?_; rintro e w8 ⟨rfl, hb8⟩
                       have HB8 := hide (HBd.out.trans (hb8.mono HBd.out.size))
                       have b8 := (HB8.out.block _ (Array.getElem?_eq_some_iff.1 Hbo.out).1).trans Hbo.out
                       have q8 := And.intro (row4 b8).2.2.1 (row4 b8).2.2.2
                       have Hb8 := hide b8
                       clear hb8 b8)
                    | (go_at_call 7; refine ((HW1.out.below HB8.out).hU.tie HLoU.out za zb).mono ?_; rintro e w9 ⟨rfl, hw9, hx9⟩
                       have HW9 := hide ((HW1.out.below HB8.out).ext hw9 hx9)
                       have b9 := (hx9.mod.block _ (Array.getElem?_eq_some_iff.1 Hb8.out).1 (fun hf => by have := HFl.out _ hf; omega)).trans Hb8.out
                       have q9 := And.intro (row4 b9).2.2.1 (row4 b9).2.2.2
                       clear hw9 hx9 b9))
                clear q8 q9 Hb8 HB8 HBd Hbo HW1 o0 o1 o2 o3
                go_wp2
                go_roundw
                case rel => exact ⟨k + 1, _, by omega, by go_num, HW9⟩
                case measure => simp [intOf]; omega
              · have n1 : (kd == 1) = false := by simp [k1]
                clear k1 bo
                by_cases k4 : kd = 4
                · subst k4
                  go_wp2_with fail
                  refine (HW1.out.hU.cut HLoU.out za).mono ?_
                  rintro e w9 ⟨rfl, hw9, hx9⟩
                  have HW9 := hide (HW1.out.ext hw9 hx9)
                  clear hw9 hx9 Hbo HW1 o0 o1 o2 o3
                  go_wp2
                  go_roundw
                  case rel => exact ⟨k + 1, _, by omega, by go_num, HW9⟩
                  case measure => simp [intOf]; omega
                · have n4 : (kd == 4) = false := by simp [k4]
                  clear k4
                  go_wp2
                  go_roundw
                  case rel => exact ⟨k + 1, _, by omega, by go_num, HW1⟩
                  case measure => simp [intOf]; omega
            · have HT5 := HW
              clear HW
              generalize wr = wd at *
              go_wp2_with fail
              refine (lenP_L HT5.out.hX.tp).mono ?_
              rintro e w6 ⟨rfl, rfl⟩
              rw [HNL.out]
              go_wp2_with fail
              refine (lenQ_L HT5.out.hT).mono ?_
              rintro e w7 ⟨rfl, rfl⟩
              rw [HLL.out, HNL.out]
              go_wp2
              go_loopw [18] (fun i wr => ∃ k : Nat, k ≤ len1 ∧ i = .int .i64 k ∧ Hid (Th w wr FX FT FU X T U L M)) (fun i _ => len1 - (intOf i).toNat)
              case atStart => exact ⟨0, by omega, rfl, HT5⟩
              case round =>
                clear HT5
                obtain ⟨k, hk, rfl, HT⟩ := hrel
                by_cases hlt : k < len1
                · obtain ⟨x, rfl, z0, z1, z2, z3⟩ := quad_at HZ1.out HT.out.hX.bel hlt
                  clear z0 z1 z3
                  go_wp2_with fail
                  refine (toP_L HT.out.hX.tp (Z1 k).2.2.1).mono ?_
                  rintro e w7 ⟨rfl, hb7⟩
                  obtain ⟨za, hza⟩ : ∃ za, (Z1 k).2.2.1 = za := ⟨_, rfl⟩
                  have HZA := hide hza
                  rw [hza] at z2 ⊢
                  clear hza
                  cases hq : atI L za with
                  | none =>
                    simp only [Option.map_none, Option.getD_none, Option.isSome_none, Cl.val, Cl.zero]
                    have HT7 := hide ((HT.out.below hb7).below ((Below.refl w7.heap.size w7).alloc (Nat.le_refl _) (.cells #[.string ByteArray.empty, .int .i64 0, .int .i64 0] 28)))
                    clear hb7 HT z2 hq
                    go_wp2
                    go_roundw
                    case rel => exact ⟨k + 1, by omega, by go_num, HT7⟩
                    case measure => simp [intOf]; omega
                  | some b =>
                    simp only [Option.map_some, Option.getD_some, Option.isSome_some, Cl.val]
                    have HT7 := hide ((HT.out.below hb7).below ((Below.refl w7.heap.size w7).alloc (Nat.le_refl _) (.cells #[.string (cl b).s, .int .i64 (cl b).a, .int .i64 (cl b).b] 28)))
                    have bc7 := heap_alloc_new w7 (.cells #[.string (cl b).s, .int .i64 (cl b).a, .int .i64 (cl b).b] 28)
                    have hs7 : w7.heap.size < (w7.alloc (.cells #[.string (cl b).s, .int .i64 (cl b).a, .int .i64 (cl b).b] 28)).heap.size := by simp
                    have HQ := hide hq
                    have HQ2 : Hid (atI (sw L) b = some za) := hide (by
                      obtain ⟨i, hi⟩ := at_idx hq
                      exact (idx_at HT.out.hX.ti.sw.a (sw_at.2 hi)).1)
                    have HTq := hide (toQ_L HT7.out.hT b)
                    rw [HQ2.out] at HTq
                    simp only [Option.getD_some, Option.isSome_some, Cl.val] at HTq
                    clear hb7 HT z2 hq
                    go_upto_region 46 with fail
                    obtain ⟨p0, p1, p2, _, _, _⟩ := blk3 bc7
                    generalize w7.alloc (.cells #[.string (cl b).s, .int .i64 (cl b).a, .int .i64 (cl b).b] 28) = w8 at *
                    go_wp2_with fail
                    refine HTq.out.mono ?_
                    rintro e w9 ⟨rfl, hb9⟩
                    have HT9 := hide (HT7.out.below hb9)
                    have bc9 := (hb9.block _ hs7).trans bc7
                    have hs9 : w7.heap.size < w9.heap.size := by have := hb9.size; omega
                    obtain ⟨x', hx', _, _, z2, _⟩ := quad_at HZ1.out HT9.out.hX.bel hlt
                    cases hx'
                    rw [HZA.out] at z2
                    have HTb := hide (backQ_L HT9.out.hT za)
                    rw [sw_sw, HQ.out] at HTb
                    simp only [Option.map_some, Option.getD_some, Option.isSome_some, Cl.val] at HTb
                    clear hb9 HT7 HTq bc7 p0 p1 p2 hs7
                    go_wp2_with fail
                    refine HTb.out.mono ?_
                    rintro e w11 ⟨rfl, hb11⟩
                    have HT11 := hide ((HT9.out.below hb11).below ((Below.refl w11.heap.size w11).alloc (Nat.le_refl _) (.cells #[.string (cl b).s, .int .i64 (cl b).a, .int .i64 (cl b).b] 28)))
                    have bc11 := (Below.heap_alloc w11 (.cells #[.string (cl b).s, .int .i64 (cl b).a, .int .i64 (cl b).b] 28) _ (by have := hb11.size; omega)).trans ((hb11.block _ hs9).trans bc9)
                    obtain ⟨q0, q1, q2, _, _, _⟩ := blk3 bc11
                    obtain ⟨r0, r1, r2, _, _, _⟩ := blk3 (heap_alloc_new w11 (.cells #[.string (cl b).s, .int .i64 (cl b).a, .int .i64 (cl b).b] 28))
                    obtain ⟨x', hx', _, _, z4, _⟩ := quad_at HZ1.out HT11.out.hX.bel hlt
                    cases hx'
                    rw [HZA.out] at z4
                    clear hb11 HT9 HTb bc9 bc11 z2 HQ HQ2
                    generalize cl b = c at *
                    go_upto_region 48 with fail
                    generalize w11.alloc (.cells #[.string c.s, .int .i64 c.a, .int .i64 c.b] 28) = wz at *
                    go_wp2
                    go_roundw
                    case rel => exact ⟨k + 1, by omega, by go_num, HT11⟩
                    case measure => simp [intOf]; omega
                · have HB := hide HT.out.hX.bel
                  clear HT
                  go_wp2
                  go_ret
                  exact ⟨rfl, HB.out⟩
end Go.Proofs.Ytdeilmllgbajbaa
