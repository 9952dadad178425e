import Derived.Test.YtmflohehnoghhaaG4
import Derived.Deep.Cut
import Derived.BigQuiet
namespace Go.Proofs.Ytmflohehnoghhaa
open Go.RowKit
theorem info57 : (Try.prog.info? 48).map (·.size) = some 2 := by kernel_rfl
theorem tc_extract (m : Nat → E) {k : Nat} (hk : k < 16) : (tc m).toArray.extract (k * 2) (k * 2 + 2) = #[.int .i64 (may (m k) : Nat), .int .i64 (sl (m k) : Nat)] := by
  have h0 := tc_get m hk (j := 0) (by omega)
  have h1 := tc_get m hk (j := 1) (by omega)
  apply Array.ext_getElem?
  intro j
  have hs : (tc m).toArray.size = 32 := by simp [tc_len]
  match j with
  | 0 => simp; simpa [enc] using h0
  | 1 => simp; simpa [enc] using h1
  | j + 2 => rw [Array.getElem?_eq_none (by simp [tc_len]; omega), Array.getElem?_eq_none (by simp)]
theorem index58 {ops : Array Oper} {rest : List Oper} {op : Oper} {a : Act} {w : World} {Q : Exit → Act → World → Prop} (hw : Region.wanted op (yielded ops a.tmps) = true) (x y : Operand) (ho : op.op = .index 49 x y) (m : Nat → E) (k : Nat) (hk : k < 16)
    (hx : a.eval x = .agg (tc m).toArray) (hy : a.eval y = .int .i64 (k : Int)) (h : wpList Try.prog ops Q rest (a.put op.dst (.agg #[.int .i64 (may (m k) : Nat), .int .i64 (sl (m k) : Nat)])) w) : wpList Try.prog ops Q (op :: rest) a w :=
  BigFrame.wpList_want hw fun _ hK => by
    have hv : (Instr.index 49 (.agg (tc m).toArray) (.int .i64 (k : Int))).run Try.prog w = .ok (.agg #[.int .i64 (may (m k) : Nat), .int .i64 (sl (m k) : Nat)]) w := by
      cases hq : Try.prog.info? 48 with
      | none => have := info57; simp [hq] at this
      | some i =>
        have hs : i.size = 2 := by have := info57; simpa [hq] using this
        have hk2 : (0 : Int) ≤ k ∧ (k : Int) < (16 : Nat) := by omega
        simp only [Instr.index, asIntOf, Sem.run_bind, Sem.run_pure, Result.andThen_ok, run_underlying Try.underlying49 w, if_pos hk2]
        simp [part, Sem.run_bind, sizeOf, typeInfo, hq, hs]
        simpa using tc_extract m hk
    unfold Oper.wp execOp
    simp only [ho, hx, hy, Sem.run_bind, Sem.run_pure, Result.andThen_ok, hv]
    exact hK _ _ h
/-- leads to slot s -/
def leads (e : E) (s : Int) : Bool := match e with
  | none => false
  | some (t, _) => decide ((t : Int) = s)
/-- the first k pages of slot s are forgotten -/
def fg (m : Nat → E) (s : Int) (k : Nat) : Nat → E := fun v => if v < k ∧ leads (m v) s = true then none else m v
def cnt (m : Nat → E) (s : Int) : Nat → Nat
  | 0 => 0
  | k + 1 => cnt m s k + (if leads (m k) s = true then 1 else 0)
theorem cnt_le (m : Nat → E) (s : Int) (k : Nat) : cnt m s k ≤ k := by
  induction k with
  | zero => simp [cnt]
  | succ k ih => unfold cnt; split <;> omega
theorem cnt_yes {m : Nat → E} {s : Int} {k : Nat} (h : leads (m k) s = true) : cnt m s (k + 1) = cnt m s k + 1 := by simp [cnt, h]
theorem cnt_no {m : Nat → E} {s : Int} {k : Nat} (h : leads (m k) s = false) : cnt m s (k + 1) = cnt m s k := by simp [cnt, h]
theorem fg_yes {m : Nat → E} {s : Int} {k : Nat} (h : leads (m k) s = true) : fg m s (k + 1) = upd (fg m s k) k none := by
  funext v
  simp only [fg, upd]
  by_cases e : v = k
  · subst e; simp [h]
  · by_cases e2 : v < k
    · simp [e, e2, Nat.lt_succ_of_lt e2]
    · simp [e, e2, show ¬ v < k + 1 by omega]
theorem fg_no {m : Nat → E} {s : Int} {k : Nat} (h : leads (m k) s = false) : fg m s (k + 1) = fg m s k := by
  funext v
  simp only [fg]
  by_cases e : v = k
  · subst e; simp [h]
  · by_cases e2 : v < k
    · simp [e2, Nat.lt_succ_of_lt e2]
    · simp [e2, show ¬ v < k + 1 by omega]
theorem fg_zero (m : Nat → E) (s : Int) : fg m s 0 = m := by funext v; simp [fg]
theorem fg_at (m : Nat → E) (s : Int) (k : Nat) : fg m s k k = m k := by simp [fg]
section
variable (w : World) (B : Nat) (m : Nat → E)
set_option maxRecDepth 100000 in
set_option maxHeartbeats 1600000 in
theorem forget_any (s : Int) (h : Tb w B m) :
    Calls Try.prog 24 #[.pointer (some ⟨B, 0, none⟩), .int .i64 s] w fun e w' => e = .returned (.int .i64 (cnt m s 16 : Nat)) ∧ TGo w w' B (fg m s 16) := by
  have H := hide h
  have hi58 : (Try.prog.info? 49).map (·.size) = some (tc m).toArray.size := by simp only [List.size_toArray, tc_len]; exact info58
  clear h
  go_enter Try.func24, Try.ntmps24
  go_upto_region 3 with (refine wpList_load_row rfl 49 _ rfl B rfl 51 (tc m).toArray (0, 0) _ H.out.out Try.underlying49 rfl hi58 ?_)
  have HZ := hide (show Tb w B (fg m s 0) by rw [fg_zero]; exact H.out)
  clear H
  go_loopw [12, 5] (fun i n wr => ∃ k : Nat, k ≤ 16 ∧ i = .int .i64 (k : Int) ∧ n = .int .i64 (cnt m s k : Nat) ∧ Tb wr B (fg m s k) ∧ Mod (fun b => b = B) w wr) (fun i _ _ => 16 - (intOf i).toNat)
  case atStart => exact ⟨0, by omega, rfl, rfl, HZ.out, Mod.refl _ _⟩
  case round =>
    obtain ⟨k, hk, rfl, rfl, hT, hM⟩ := hrel
    clear HZ
    by_cases hlt : k < 16
    · have hd : decide ((k : Int) < 16) = true := by simp; omega
      have hc := cnt_le m s k
      go_upto_region 5 with (refine index58 ?hw0 _ _ rfl m k hlt rfl rfl ?_)
      have hb1 : Below wr.heap.size wr (wr.alloc (.cells #[.int .i64 (may (m k) : Nat), .int .i64 (sl (m k) : Nat)] 48)) := (Below.refl _ _).alloc (Nat.le_refl _) _
      have h1 := hT.below hb1
      have hM1 : Mod (fun b => b = B) w (wr.alloc (.cells #[.int .i64 (may (m k) : Nat), .int .i64 (sl (m k) : Nat)] 48)) := hM.alloc _
      have hz := heap_alloc_last wr (.cells #[.int .i64 (may (m k) : Nat), .int .i64 (sl (m k) : Nat)] 48)
      have d1 : (wr.alloc (.cells #[.int .i64 (may (m k) : Nat), .int .i64 (sl (m k) : Nat)] 48)).cell? ⟨wr.heap.size, 1, none⟩ = some (.int .i64 (sl (m k) : Nat)) := by rw [cell_of_row _ _ 1 _ _ _ hz]; rfl
      have hp := present_any _ B _ k h1 hlt
      rw [fg_at] at hp
      obtain ⟨c0, c1⟩ := h1.c hlt
      rw [fg_at] at c0 c1
      have f0 := h1.frz (k * 2)
      have f1 := h1.frz (k * 2 + 1)
      have HX := hide (And.intro h1 hM1)
      clear hb1 h1 hM1 hz hT hM
      generalize wr.alloc (.cells #[.int .i64 (may (m k) : Nat), .int .i64 (sl (m k) : Nat)] 48) = w1 at *
      generalize wr.heap.size = M at *
      rcases hm : m k with _ | ⟨t, b⟩
      · have hl : leads (m k) s = false := by rw [hm]; rfl
        rw [hm] at hp
        go_wp2_with fail
        refine hp.mono ?_
        rintro e w2 ⟨rfl, rfl⟩
        clear c0 c1 f0 f1 d1 hp
        go_wp2
        go_roundw
        case rel => exact ⟨k + 1, by omega, by go_num, by rw [cnt_no hl], by rw [fg_no hl]; exact HX.out.1, HX.out.2⟩
        case measure => simp [intOf]; omega
      · have es : sl (m k) = t := by rw [hm]; rfl
        rw [es] at d1 c1 
        rw [hm] at hp
        by_cases ht : (t : Int) = s
        · have hl : leads (m k) s = true := by rw [hm]; simp [leads, ht]
          rw [ht] at d1
          have HY := hide (And.intro (HX.out.1.set hlt none) (HX.out.2.setCells (b := B) (.inl rfl) (k * 2) (enc none)))
          clear HX
          generalize ((may (m k) : Nat) : Int) = z0 at *
          go_wp2_with fail
          refine hp.mono ?_
          rintro e w2 ⟨rfl, rfl⟩
          clear hp
          go_wp2
          go_roundw
          case rel => exact ⟨k + 1, by omega, by go_num, by rw [cnt_yes hl]; go_num, by rw [fg_yes hl]; exact HY.out.1, HY.out.2⟩
          case measure => simp [intOf]; omega
        · have hl : leads (m k) s = false := by rw [hm]; simp [leads, ht]
          go_wp2_with fail
          refine hp.mono ?_
          rintro e w2 ⟨rfl, rfl⟩
          clear c0 c1 f0 f1 hp
          go_wp2
          go_roundw
          case rel => exact ⟨k + 1, by omega, by go_num, by rw [cnt_no hl], by rw [fg_no hl]; exact HX.out.1, HX.out.2⟩
          case measure => simp [intOf]; omega
    · obtain rfl : k = 16 := by omega
      have hd : decide (((16 : Nat) : Int) < 16) = false := by simp
      have HX := hide (And.intro hT hM)
      clear hT hM
      go_wp2
      go_ret
      exact ⟨rfl, HX.out⟩
end
end Go.Proofs.Ytmflohehnoghhaa
