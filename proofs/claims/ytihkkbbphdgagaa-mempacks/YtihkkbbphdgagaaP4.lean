import Derived.Test.YtihkkbbphdgagaaP3
namespace Go.Proofs.Ytihkkbbphdgagaa
open Go.RowKit

theorem xor_ne (a : Nat) : a ^^^ 255 ≠ a := by
  intro h
  have := congrArg (fun z => a ^^^ z) h
  simp only [Nat.xor_self, ← Nat.xor_assoc, Nat.zero_xor] at this
  omega
/-- bytes that came in -/
def IsBys (w : World) (a : Option Addr) (len : Nat) (F : Nat → Nat) : Prop := ∀ k, k < len → ∃ x, a = some x ∧ w.cell? (x.add k) = some (.int .u8 (F k : Nat)) ∧ F k < 256
theorem Bk.get0 {w : World} {N : Nat} {f : Nat → Nat} (h : Bk w N f) {i : Nat} (hi : i < 128) : w.cell? ((⟨N, 0, none⟩ : Addr).add i) = some (.int .u8 (f i : Nat)) := by rw [add0]; exact h.cell hi
/-- the first k turned over -/
def flip (f : Nat → Nat) (k : Nat) : Nat → Nat := fun j => if j < k then f j ^^^ 255 else f j
set_option maxRecDepth 1000000 in
set_option maxHeartbeats 4000000 in
theorem back_walk (p : Nat → Nat) (a : Option Addr) (len cap : Nat) (F : Nat → Nat) (w : World) (hp : ∀ i, i < 32 → p i < 4294967296) (hl : len ≤ maxLen) (hF : IsBys w a len F) :
    Calls Try.prog 3 #[.agg (page p).toArray, .slice a len cap] w fun e w' => e = .returned (.bool true) ∧ Below w.heap.size w w' := by
  have hl2 : len ≤ 9223372036854775807 := by unfold maxLen at hl; omega
  clear hl
  have hp0 : Pg (w.alloc (.cells (page p).toArray 24)) w.heap.size p := ⟨heap_alloc_last _ _⟩
  have hb0 : Below w.heap.size w (w.alloc (.cells (page p).toArray 24)) := (Below.refl _ _).alloc (Nat.le_refl _) _
  go_enter Try.func3, Try.ntmps3
  go_upto_region 1 with fail
  generalize w.alloc (.cells (page p).toArray 24) = w0 at *
  have r0 := hp0.range
  go_wp2_with (refine load24 rfl _ rfl w.heap.size 0 rfl _ r0 ?_)
  refine (pack_any p hp w0).mono ?_
  rintro e w1 ⟨X, rfl, hX, hXl, hb1⟩
  have hp1 := hp0.up hb1
  have hNX : w.heap.size ≠ X := by have := hp0.lt; omega
  have hwX : w.heap.size ≤ X := Nat.le_trans hb0.size hXl
  have H1 := hide (And.intro hX (And.intro hp1 (hb0.trans (hb1.mono hb0.size))))
  have HF := hide hF
  clear hX hp1 hp0 hb0 hb1 r0 hXl hF
  go_wp2
  go_loopw [6] (fun i wr => ∃ k : Nat, k ≤ 128 ∧ i = .int .i64 (k : Int) ∧ Bk wr X (pb p) ∧ Pg wr w.heap.size p ∧ Below w.heap.size w wr) (fun i _ => 128 - (intOf i).toNat)
  case atStart => exact ⟨0, by omega, rfl, H1.out⟩
  case round =>
    clear H1
    obtain ⟨k, hk, rfl, hX, hP, hb⟩ := hrel
    by_cases hlt : k < 128
    · have hd : decide ((k : Int) < 128) = true := by simp; omega
      have c1 := hX.cell hlt
      have c2 := hP.cell (i := k / 4) (by omega)
      have hpk := hp (k / 4) (by omega)
      obtain ⟨q, hq⟩ : ∃ q, k / 4 = q := ⟨_, rfl⟩
      have hqi : (k : Int) / 4 = (q : Int) := by omega
      have hql : q < 32 := by omega
      have hwr : IntKind.i64.wrap (q : Int) = (q : Int) := by rw [IntKind.wrap_i64]; omega
      have hpb : pb p k = p q / 2 ^ (k % 4 * 8) % 256 := by unfold pb; rw [hq]
      rw [hq] at c2 hpk
      obtain ⟨sh, hsh⟩ : ∃ sh, k % 4 * 8 = sh := ⟨_, rfl⟩
      have hshl : sh < 32 := by omega
      have hsi : 8 * ((k : Int) % 4) = (sh : Int) := by omega
      have hw8 : IntKind.u8.wrap ((p q : Int) / 2 ^ sh) = (p q : Int) / 2 ^ sh % 256 := by rw [IntKind.wrap_u8]
      rw [hpb, hsh] at c1
      have HX := hide (And.intro hX (And.intro hP hb.drew))
      clear hX hP hb hpb hsh hq
      go_wp2
      go_region_held (fun W => W.cell? ⟨X, k, none⟩ = some (.int .u8 ((p q / 2 ^ sh % 256 : Nat) : Int)) ∧ W.cell? ⟨w.heap.size, q, none⟩ = some (.int .u32 (p q : Nat)))
        (exact And.intro c1 c2)
        (fail)
      all_goals go_wp2
      all_goals go_roundw
      all_goals first
        | exact ⟨k + 1, by omega, by go_num, ⟨HX.out.1.out⟩, ⟨HX.out.2.1.out⟩, HX.out.2.2⟩
        | (simp [intOf]; omega)
    · have hd : decide ((k : Int) < 128) = false := by simp; omega
      have hlt' : ¬ (k : Int) < 128 := by omega
      go_wp2_with fail
      refine (unpack_ok wr ⟨X, 0, none⟩ 128 (pb p) (pb_lt p) (fun i hi => hX.get0 hi)).mono ?_
      rintro e w2 ⟨rfl, hb2⟩
      rw [page_congr (w := unk (pb p) 128) (w' := p) (fun i hi => unk_pb hi (hp i hi))]
      have hX2 := hX.up hb2
      have hP2 := hP.up hb2
      have hB2 := hb.trans (hb2.mono hb.size)
      have hX3 := hX2.up (fresh_below w2 p)
      have hP3 := hP2.up (fresh_below w2 p)
      have hQ3 := fresh_pg w2 p
      have hB3 := hB2.trans ((fresh_below w2 p).mono hB2.size)
      have hXQ : X ≠ w2.heap.size := by have := hX2.lt; omega
      have hwQ := hB2.size
      clear hX hP hb hb2 hX2 hP2 hB2 hlt
      have hz : Pg (w2.alloc (.cells (page (fun _ => 0)).toArray 24)) w2.heap.size (fun _ => 0) := ⟨heap_alloc_last _ _⟩
      rw [← page_zero] at hz
      go_upto_region 10 with (refine store24 ?hw1 _ _ rfl w2.heap.size p (fun _ => 0) ?hx1 ?hy1 ?hz1 ?_)
      case hx1 => rfl
      case hy1 => rfl
      case hz1 => exact hz
      simp only [page_zero]
      show Code.wp _ _ _ _ (fresh w2 p)
      clear hz
      generalize fresh w2 p = w3 at *
      generalize w2.heap.size = Q at *
      have H3 := hide (And.intro hX3 (And.intro hP3 (And.intro hQ3 hB3)))
      clear hX3 hP3 hQ3 hB3 hd hlt' hk
      go_wp2
      go_loopw [9] (fun i wr => ∃ k : Nat, k ≤ 128 ∧ i = .int .i64 (k : Int) ∧ Bk wr X (flip (pb p) k) ∧ Pg wr w.heap.size p ∧ Pg wr Q p ∧ Below w.heap.size w wr) (fun i _ => 128 - (intOf i).toNat)
      case atStart => exact ⟨0, by omega, rfl, H3.out⟩
      case round =>
        clear H3
        obtain ⟨k, hk, rfl, hX, hP, hQ, hb⟩ := hrel
        by_cases hlt : k < 128
        · have hd : decide ((k : Int) < 128) = true := by simp; omega
          have c1 := hX.cell hlt
          have f1 := hX.frz k
          rw [show flip (pb p) k k = pb p k by simp [flip]] at c1
          have hlt2 := pb_lt p k
          have hxr : bits .xor .u8 ((pb p k : Nat) : Int) 255 = ((pb p k ^^^ 255 : Nat) : Int) := u8_xor_nat (pb p k) 255 hlt2 (by omega)
          have hX' := hX.set hlt (pb p k ^^^ 255)
          rw [show setW (flip (pb p) k) k (pb p k ^^^ 255) = flip (pb p) (k + 1) by
            funext j; unfold setW flip; split
            · rename_i e; subst e; simp
            · rename_i e
              by_cases h2 : j < k
              · simp [h2, Nat.lt_succ_of_lt h2]
              · simp [h2, show ¬ j < k + 1 by omega]] at hX'
          have HX := hide (And.intro hX' (And.intro (hP.setOther (a := ⟨X, k, none⟩) hNX (.int .u8 ((pb p k ^^^ 255 : Nat) : Int))) (And.intro (hQ.setOther (a := ⟨X, k, none⟩) (Ne.symm hXQ) (.int .u8 ((pb p k ^^^ 255 : Nat) : Int))) (hb.setCell (p := ⟨X, k, none⟩) hwX (.int .u8 ((pb p k ^^^ 255 : Nat) : Int))))))
          clear hX hP hQ hb hX'
          generalize pb p k ^^^ 255 = y at *
          generalize pb p k = y0 at *
          go_wp2
          go_roundw
          case rel => exact ⟨k + 1, by omega, by go_num, HX.out⟩
          case measure => simp [intOf]; omega
        · have hd : decide ((k : Int) < 128) = false := by simp; omega
          have hlt' : ¬ (k : Int) < 128 := by omega
          have hX' : Bk wr X (flip (pb p) 128) := by rw [← show k = 128 by omega]; exact hX
          have r0 := hP.range
          have HX := hide (And.intro hX' (And.intro hP (And.intro hQ hb)))
          clear hX hX' hP hQ hb
          go_wp2_with (refine load24 rfl _ rfl w.heap.size 0 rfl _ r0 ?_)
          refine (pack_any p hp wr).mono ?_
          rintro e w4 ⟨Y, rfl, hY, hYl, hb4⟩
          have cx := (HX.out.1.up hb4).cell (i := 0) (by omega)
          have cy := hY.cell (i := 0) (by omega)
          have rP := (HX.out.2.1.up hb4).range
          have rQ := (HX.out.2.2.1.up hb4).range
          have hB4 := HX.out.2.2.2.trans (hb4.mono HX.out.2.2.2.size)
          rw [show flip (pb p) 128 0 = pb p 0 ^^^ 255 by simp [flip]] at cx
          have hne9 := xor_ne (pb p 0)
          clear HX hY hYl hb4 r0
          generalize pb p 0 ^^^ 255 = y1 at *
          generalize pb p 0 = y0 at *
          have hne8 : ¬ (y0 : Int) = (y1 : Int) := by omega
          have hne7 : ((y0 : Int) == (y1 : Int)) = false := by simpa using hne8
          have he := eq24 p p
          rw [eqP_refl] at he
          have HB := hide hB4
          clear hB4
          go_upto_region 15 with fail
          refine wp_region_quiet_lit (by kernel_rfl) (by kernel_rfl) ?_
          repeat (first
            | refine quiet_load24 rfl _ rfl Q 0 rfl _ rQ _ (by simp only [Act.put, List.setIfInBounds_toArray, List.set]; rfl) ?_
            | refine quiet_load24 rfl _ rfl w.heap.size 0 rfl _ rP _ (by simp only [Act.put, List.setIfInBounds_toArray, List.set]; rfl) ?_
            | go_big_quiet_step (fail))
          refine wpQuiet_nil ?_
          rintro _ ⟨nq, rfl⟩
          have hB5 : Below w.heap.size w (w4.drewN nq) := HB.out.trans ⟨rfl, rfl, rfl, Nat.le_refl _, fun _ _ => rfl⟩
          clear HB cx cy rP rQ he hne7 hne8 hne9
          generalize w4.drewN nq = w5 at *
          by_cases h128 : len = 128
          · subst h128
            obtain ⟨x, rfl, _, _⟩ := HF.out 0 (by omega)
            have hcb : ∀ i, i < 128 → w5.cell? (x.add i) = some (.int .u8 ((if i < 128 then F i else 0 : Nat) : Int)) := fun i hi => by
              obtain ⟨x', e, h1, h2⟩ := HF.out i hi
              simp at e
              subst e
              rw [if_pos hi]
              exact cell_up h1 hB5
            go_wp2_with fail
            refine (unpack_ok w5 x cap (fun i => if i < 128 then F i else 0) (fun i => by
              by_cases hi : i < 128
              · obtain ⟨x', e, h1, h2⟩ := HF.out i hi
                simp only [hi, if_true]; exact h2
              · simp only [hi, if_false]; omega) hcb).mono ?_
            rintro e w6 ⟨rfl, hb6⟩
            clear hcb
            generalize unk (fun i => if i < 128 then F i else 0) 128 = z at *
            have hB6 := hB5.trans (hb6.mono hB5.size)
            have HB7 := hide (hB6.trans ((fresh_below w6 z).mono hB6.size))
            clear hb6 hB6 hB5
            have hz : Pg (w6.alloc (.cells (page (fun _ => 0)).toArray 24)) w6.heap.size (fun _ => 0) := ⟨heap_alloc_last _ _⟩
            rw [← page_zero] at hz
            go_upto_region 18 with (refine store24 ?hw5 _ _ rfl w6.heap.size z (fun _ => 0) ?hx5 ?hy5 ?hz5 ?_)
            case hx5 => rfl
            case hy5 => rfl
            case hz5 => exact hz
            simp only [page_zero]
            show Code.wp _ _ _ _ (fresh w6 z)
            clear hz
            generalize fresh w6 z = w7 at *
            generalize w6.heap.size = N6 at *
            go_wp2
            go_ret
            exact ⟨rfl, HB7.out⟩
          · have hne : ¬ (len : Int) = 128 := by omega
            have hne2 : ((len : Int) == 128) = false := by simpa using hne
            go_wp2_with fail
            refine (unpack_bad w5 a len cap h128).mono ?_
            rintro e w6 ⟨rfl, hb6⟩
            obtain ⟨z, hzz⟩ : ∃ z : Nat → Nat, (fun _ => 0) = z := ⟨_, rfl⟩
            rw [hzz]
            clear hzz
            have hB6 := hB5.trans (hb6.mono hB5.size)
            have HB7 := hide (hB6.trans ((fresh_below w6 z).mono hB6.size))
            clear hb6 hB6 hB5
            have hz : Pg (w6.alloc (.cells (page (fun _ => 0)).toArray 24)) w6.heap.size (fun _ => 0) := ⟨heap_alloc_last _ _⟩
            rw [← page_zero] at hz
            go_upto_region 18 with (refine store24 ?hw6 _ _ rfl w6.heap.size z (fun _ => 0) ?hx6 ?hy6 ?hz6 ?_)
            case hx6 => rfl
            case hy6 => rfl
            case hz6 => exact hz
            simp only [page_zero]
            show Code.wp _ _ _ _ (fresh w6 z)
            clear hz
            generalize fresh w6 z = w7 at *
            generalize w6.heap.size = N6 at *
            go_wp2
            go_ret
            exact ⟨rfl, HB7.out⟩
end Go.Proofs.Ytihkkbbphdgagaa
