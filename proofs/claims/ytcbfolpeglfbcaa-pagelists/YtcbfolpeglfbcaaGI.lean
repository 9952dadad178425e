import Derived.Test.YtcbfolpeglfbcaaGH
namespace Go.Proofs.Ytcbfolpeglfbcaa
open Go.RowKit
section
variable (w : World) (m0 m1 : Nat → E)
set_option maxRecDepth 100000 in
set_option maxHeartbeats 3200000 in
theorem listed_any (a : Option Addr) (len cap : Nat) (Z : Nat → Mp) (hz : IsMaps w a len Z) (hl : len ≤ maxLen) (ho : lay Z len = .ok m1) :
    Calls Try.prog 20 #[.agg (sc m0).toArray, .slice a len cap] w fun e w' => e = .returned (.bool (same m1 m0)) ∧ Below w.heap.size w w' := by
  have H := hide hz
  have hl' : len ≤ 9223372036854775807 := hl
  have hS := Sn.new w m0
  have hB0 : Below w.heap.size w (w.alloc (.cells (sc m0).toArray 35)) := (Below.refl _ _).alloc (Nat.le_refl _) _
  have HL := hide ho
  clear hz ho
  go_enter Try.func20, Try.ntmps20
  go_upto_region 1 with fail
  generalize w.alloc (.cells (sc m0).toArray 35) = w0 at *
  obtain ⟨N, hN⟩ : ∃ N, w.heap.size = N := ⟨_, rfl⟩
  have hg := good_any w0 a len cap Z (H.out.below hB0) hl
  rw [okB_ok HL.out] at hg
  rw [hN] at hS ⊢
  go_wp2_with fail
  refine hg.mono ?_
  rintro e w1 ⟨rfl, hb1⟩
  have hS1 := hS.below hb1
  have hB1 := hB0.trans (hb1.mono hB0.size)
  have hn2 := Sn.new w1 nil
  have hb2 : Below w1.heap.size w1 (w1.alloc (.cells (sc nil).toArray 35)) := (Below.refl _ _).alloc (Nat.le_refl _) _
  have hS2 := hS1.below hb2
  have hB2 := hB1.trans (hb2.mono hB1.size)
  have hNM : N ≠ w1.heap.size := by have := hS1.lt; omega
  have hwM : w.heap.size ≤ w1.heap.size := hB1.size
  rw [sc_nil] at hn2 hS2 hB2
  have HX := hide (And.intro hS2 (And.intro hn2 hB2))
  clear hS hB0 hb1 hS1 hB1 hn2 hb2 hS2 hB2 hg
  go_upto_region 4 with fail
  generalize w1.alloc (.cells _ 35) = w2 at *
  generalize w1.heap.size = M at *
  go_upto_region 5 with fail
  go_loopw [6] (fun i wr => ∃ (k : Nat) (mk : Nat → E), k ≤ len ∧ i = .int .i64 (k : Int) ∧ lay Z k = .ok mk ∧ Sn wr N m0 ∧ Sn wr M mk ∧ Below w.heap.size w wr) (fun i _ => len - (intOf i).toNat)
  case atStart => exact ⟨0, nil, by omega, rfl, rfl, HX.out⟩
  case round =>
    obtain ⟨k, mk, hk, rfl, hL, hA, hS, hM⟩ := hrel
    clear HX
    by_cases hlt : k < len
    · have hd : decide (k < len) = true := by simp; omega
      obtain ⟨x, hx, _⟩ := H.out k hlt
      subst hx
      obtain ⟨c0, c1, c2⟩ := (H.out.below hM).c hlt
      obtain ⟨m2, hm2⟩ := lay_pre HL.out (k := k + 1) (by omega)
      obtain ⟨m3, h3, hc, _⟩ := lay_step hm2
      rw [hL] at h3
      cases h3
      obtain ⟨v, t, hv, ht, hv1, ht1, hn⟩ := code_ok hc
      have hlo := lay_ok hL hc
      rw [hv, ht] at hlo
      have e1 : (v : Int).toNat = v := by omega
      have e2 : (t : Int).toNat = t := by omega
      rw [e1, e2] at hlo
      have h1 : Sn (wr.setCells M (v * 3) (ent (some (t, (Z k).b)))).drew N m0 := (hA.keep (heap_setCells_other _ _ hNM _ _ _)).drew
      have h2 : Sn (wr.setCells M (v * 3) (ent (some (t, (Z k).b)))).drew M (upd mk v (some (t, (Z k).b))) := (hS.set hv1 _).drew
      have h4 : Below w.heap.size w (wr.setCells M (v * 3) (ent (some (t, (Z k).b)))).drew :=
        (hM.trans (((Mod.refl (fun b => b = M) wr).setCells (b := M) (.inl rfl) (v * 3) (ent (some (t, (Z k).b)))).below (fun b hb => by omega) hM.size)).drew
      have HY := hide (And.intro hlo (And.intro h1 (And.intro h2 h4)))
      obtain ⟨f0, f1, f2⟩ := hS.c hv1
      have g0 := frozen_of_row _ _ (v * 3) _ _ hS.out
      have g1 := frozen_of_row _ _ (v * 3 + 1) _ _ hS.out
      have g2 := frozen_of_row _ _ (v * 3 + 2) _ _ hS.out
      have hxb : M ≠ (x.add (k * 3)).block := by
        obtain ⟨d0, _, _⟩ := H.out.c hlt
        have := World.block_lt_of_cell? w _ d0
        omega
      have e0 : ent (some (t, (Z k).b)) = [.bool true, .int .i64 (t : Int), .bool (Z k).b] := rfl
      rw [e0] at HY
      rw [hv] at c0
      rw [ht] at c1
      clear h1 h2 h4 hA hS hM hL hc hlo hm2 e0 e1 e2 hv ht hn
      generalize (mk v).isSome = o0 at *
      generalize ((sl (mk v) : Nat) : Int) = o1 at *
      generalize wb (mk v) = o2 at *
      generalize (Z k).b = q at *
      go_upto_region 7 with fail
      go_region_held (fun W => W.cell? (x.add (k * 3)) = some (.int .i64 (v : Int)) ∧ W.cell? ⟨(x.add (k * 3)).block, (x.add (k * 3)).off + 1, none⟩ = some (.int .i64 (t : Int)) ∧ W.cell? ⟨(x.add (k * 3)).block, (x.add (k * 3)).off + 2, none⟩ = some (.bool q)) (go_keep) (fail)
      rename_i hHeld
      clear hHeld c0 c1 c2 f0 f1 f2 g0 g1 g2
      go_wp2
      go_roundw
      case rel => exact ⟨k + 1, _, by omega, by go_num, HY.out⟩
      case measure => simp [intOf]; omega
    · obtain rfl : k = len := by omega
      have hd : decide (k < k) = false := by simp
      have e1 := HL.out
      rw [hL] at e1
      cases e1
      have HX := hide (And.intro hA (And.intro hS hM))
      have he := eq35 m1 m0
      have hi35 : ∀ m : Nat → E, (Try.prog.info? 35).map (·.size) = some (sc m).length := fun m => by rw [sc_len]; exact info35
      clear hL hA hS hM
      go_wp2_with (first
        | refine load_st 35 _ Try.underlying35 rfl (sc m1) (hi35 m1) rfl _ rfl ⟨M, 0, none⟩ rfl (fun j v hv => by rw [add0]; exact HX.out.2.1.get hv) ?_
        | refine load_st 35 _ Try.underlying35 rfl (sc m0) (hi35 m0) rfl _ rfl ⟨N, 0, none⟩ rfl (fun j v hv => by rw [add0]; exact HX.out.1.get hv) ?_)
      go_ret
      exact ⟨rfl, HX.out.2.2⟩
end
end Go.Proofs.Ytcbfolpeglfbcaa
