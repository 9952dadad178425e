import Derived.Test.YtmflohehnoghhaaG7
namespace Go.Proofs.Ytmflohehnoghhaa
open Go.RowKit
/-- a mapping -/
structure Mp where
  v : Int
  s : Int
  b : Bool
def Mp.cells (z : Mp) : List Value := [.int .i64 z.v, .int .i64 z.s, .bool z.b]
/-- mappings that lie in a slice -/
def IsMaps (w : World) (a : Option Addr) (len : Nat) (Z : Nat → Mp) : Prop :=
  ∀ k, k < len → ∃ x, a = some x ∧ ∀ (j : Nat) (v : Value), (Z k).cells[j]? = some v → w.cell? ((x.add (k * 3)).add j) = some v
theorem IsMaps.below {w w' : World} {a : Option Addr} {len : Nat} {Z : Nat → Mp} (h : IsMaps w a len Z) (hb : Below w.heap.size w w') : IsMaps w' a len Z := by
  intro k hk
  obtain ⟨x, h1, h2⟩ := h k hk
  refine ⟨x, h1, fun j v hv => ?_⟩
  have h3 := h2 j v hv
  rw [hb.cell (World.block_lt_of_cell? w _ h3)]; exact h3
/-- what Map answers -/
def code (m : Nat → E) (v s : Int) : Int :=
  if v < 0 ∨ 16 ≤ v then 60 else if s < 0 ∨ 48 ≤ s then 30 else if (m v.toNat).isSome = true then 61 else 0
theorem code_ok {m : Nat → E} {v s : Int} (h : code m v s = 0) : ∃ k t : Nat, v = k ∧ s = t ∧ k < 16 ∧ t < 48 ∧ m k = none := by
  unfold code at h
  split at h
  · simp at h
  · rename_i h1
    split at h
    · simp at h
    · rename_i h2
      split at h
      · simp at h
      · rename_i h3
        refine ⟨v.toNat, s.toNat, by omega, by omega, by omega, by omega, ?_⟩
        simpa using h3
section
variable (w : World) (B : Nat) (m : Nat → E)
theorem map_bad (v s : Int) (b : Bool) (h : Tb w B m) (hc : code m v s ≠ 0) :
    Calls Try.prog 17 #[.pointer (some ⟨B, 0, none⟩), .int .i64 v, .int .i64 s, .bool b] w fun e w' => e = .returned (.int .i64 (code m v s)) ∧ w' = w := by
  by_cases h1 : v < 0 ∨ 16 ≤ v
  · have : code m v s = 60 := by unfold code; rw [if_pos h1]
    rw [this]; exact map_page w B v s b h1
  · obtain ⟨k, rfl⟩ := Int.eq_ofNat_of_zero_le (a := v) (by omega)
    by_cases h2 : s < 0 ∨ 48 ≤ s
    · have : code m k s = 30 := by unfold code; rw [if_neg h1, if_pos h2]
      rw [this]; exact map_slot w B k s b (by omega) h2
    · obtain ⟨t, rfl⟩ := Int.eq_ofNat_of_zero_le (a := s) (by omega)
      rcases hm : m k with _ | x
      · exact absurd (by unfold code; rw [if_neg h1, if_neg h2]; simp [hm]) hc
      · have : code m k t = 61 := by unfold code; rw [if_neg h1, if_neg h2]; simp [hm]
        rw [this]; exact map_there w B m k t b h (by omega) (by omega) x hm
theorem map_good (v s : Int) (b : Bool) (h : Tb w B m) (hc : code m v s = 0) :
    Calls Try.prog 17 #[.pointer (some ⟨B, 0, none⟩), .int .i64 v, .int .i64 s, .bool b] w fun e w' => e = .returned (.int .i64 0) ∧ TGo w w' B (upd m v.toNat (some (s.toNat, b))) := by
  obtain ⟨k, t, rfl, rfl, h1, h2, h3⟩ := code_ok hc
  exact map_ok w B m k t b h h1 h2 h3
end
/-- what Load makes of the first n, or what it answers -/
def lay (Z : Nat → Mp) : Nat → Except Int (Nat → E)
  | 0 => .ok nil
  | n + 1 => match lay Z n with
    | .error c => .error c
    | .ok m => if code m (Z n).v (Z n).s = 0 then .ok (upd m (Z n).v.toNat (some ((Z n).s.toNat, (Z n).b))) else .error (code m (Z n).v (Z n).s)
theorem lay_ok {Z : Nat → Mp} {n : Nat} {m : Nat → E} (h : lay Z n = .ok m) (hc : code m (Z n).v (Z n).s = 0) : lay Z (n + 1) = .ok (upd m (Z n).v.toNat (some ((Z n).s.toNat, (Z n).b))) := by
  simp [lay, h, hc]
theorem lay_bad {Z : Nat → Mp} {n : Nat} {m : Nat → E} (h : lay Z n = .ok m) (hc : code m (Z n).v (Z n).s ≠ 0) {len : Nat} (hl : n < len) : lay Z len = .error (code m (Z n).v (Z n).s) := by
  induction len with
  | zero => omega
  | succ len ih =>
    by_cases e : n = len
    · subst e; simp [lay, h, hc]
    · simp [lay, ih (by omega)]
theorem lay_err {Z : Nat → Mp} {n : Nat} {c : Int} (h : lay Z n = .error c) : c ≠ 0 := by
  induction n generalizing c with
  | zero => simp [lay] at h
  | succ n ih =>
    unfold lay at h
    split at h
    · rename_i c' h1; simp at h; subst h; exact ih h1
    · split at h
      · simp at h
      · rename_i h2; simp at h; subst h; exact h2
theorem lay_sm {Z : Nat → Mp} {n : Nat} {m : Nat → E} (h : lay Z n = .ok m) : Sm m := by
  induction n generalizing m with
  | zero => simp [lay] at h; subst h; exact Sm.nil
  | succ n ih =>
    unfold lay at h
    split at h
    · simp at h
    · rename_i m1 h1
      split at h
      · rename_i h2
        simp at h; subst h
        obtain ⟨k, t, _, h3, _, h4, _⟩ := code_ok h2
        exact (ih h1).upd (by omega)
      · simp at h
/-- a struct or an array loaded out of whatever address -/
theorem load_st {ops : Array Oper} {rest : List Oper} {op : Oper} {a : Act} {w : World} {Q : Exit → Act → World → Prop} (t : TypeId) (d : TypeDesc) (hu : Try.prog.underlying t = some d) (hd : (match d with | .struct _ | .array _ _ => true | _ => false) = true) (cs : List Value) (hi : (Try.prog.info? t).map (·.size) = some cs.length)
    (hw : Region.wanted op (yielded ops a.tmps) = true) (x : Operand) (ho : op.op = .load t x) (ad : Addr)
    (hx : a.eval x = .pointer (some ad)) (hc : ∀ (j : Nat) (v : Value), cs[j]? = some v → w.cell? (ad.add j) = some v) (h : wpList Try.prog ops Q rest (a.put op.dst (.agg cs.toArray)) w) : wpList Try.prog ops Q (op :: rest) a w :=
  BigFrame.wpList_want hw fun _ hK => by
    have hl : (loadCells ad cs.length).run Try.prog w = .ok cs.toArray w := run_loadCells_list w ad cs hc
    have hv : (loadVar t ad).run Try.prog w = .ok (.agg cs.toArray) w := by
      cases hq : Try.prog.info? t with
      | none => simp [hq] at hi
      | some i =>
        have hs : i.size = cs.length := by simpa [hq] using hi
        have hagg : (isAgg t).run Try.prog w = .ok true w := by
          unfold isAgg
          rw [Sem.run_bind, run_underlying hu w]
          cases d <;> simp_all
        simp [loadVar, Sem.run_bind, hagg, sizeOf, typeInfo, hq, hs, hl]
    unfold Oper.wp execOp
    simp only [ho, hx, Instr.loadAt, Instr.sureAddr, Sem.run_bind, Sem.run_pure, Result.andThen_ok, hv]
    exact hK _ _ h
theorem info50 : (Try.prog.info? 64).map (·.size) = some 3 := by kernel_rfl
section
variable (w : World) (B : Nat) (m : Nat → E)
set_option maxRecDepth 100000 in
set_option maxHeartbeats 1600000 in
theorem load_any (a : Option Addr) (len cap : Nat) (Z : Nat → Mp) (h : Tb w B m) (hz : IsMaps w a len Z) (hl : len ≤ maxLen) :
    Calls Try.prog 12 #[.pointer (some ⟨B, 0, none⟩), .slice a len cap] w fun e w' => (∃ c, lay Z len = .error c ∧ e = .returned (.int .i64 c) ∧ Below w.heap.size w w') ∨ (∃ m', lay Z len = .ok m' ∧ e = .returned (.int .i64 0) ∧ TGo w w' B m') := by
  have H := hide (And.intro h hz)
  have hl' : len ≤ 9223372036854775807 := hl
  clear h hz
  go_enter Try.func12, Try.ntmps12
  go_wp2_with fail
  refine (new_any w).mono ?_
  rintro e w1 ⟨rfl, h1, hb1⟩
  have H1 := hide (And.intro h1 hb1)
  clear h1 hb1
  obtain ⟨N, hN⟩ : ∃ N, w.heap.size = N := ⟨_, rfl⟩
  rw [hN] at H1 ⊢
  go_upto_region 3 with fail
  go_loopw [12] (fun i wr => ∃ (k : Nat) (mk : Nat → E), k ≤ len ∧ i = .int .i64 (k : Int) ∧ lay Z k = .ok mk ∧ Tb wr N mk ∧ Below N w wr) (fun i _ => len - (intOf i).toNat)
  case atStart => exact ⟨0, nil, by omega, rfl, rfl, H1.out⟩
  case round =>
    obtain ⟨k, mk, hk, rfl, hL, hT, hM⟩ := hrel
    clear H1
    by_cases hlt : k < len
    · have hd : decide (k < len) = true := by simp; omega
      obtain ⟨x, hx, hc⟩ := (H.out.2.below (by rw [hN]; exact hM)) k hlt
      subst hx
      have e0 : (Z k).cells = [.int .i64 (Z k).v, .int .i64 (Z k).s, .bool (Z k).b] := rfl
      rw [e0] at hc
      have HC := hide hc
      have hb1 := hM.alloc (by rw [← hN]; exact hM.size) (.cells #[.int .i64 (Z k).v, .int .i64 (Z k).s, .bool (Z k).b] 64)
      have h1 := hT.alloc (.cells #[.int .i64 (Z k).v, .int .i64 (Z k).s, .bool (Z k).b] 64)
      have hz := heap_alloc_last wr (.cells #[.int .i64 (Z k).v, .int .i64 (Z k).s, .bool (Z k).b] 64)
      have d0 : (wr.alloc (.cells #[.int .i64 (Z k).v, .int .i64 (Z k).s, .bool (Z k).b] 64)).cell? ⟨wr.heap.size, 0, none⟩ = some (.int .i64 (Z k).v) := by rw [cell_of_row _ _ 0 _ _ _ hz]; rfl
      have d1 : (wr.alloc (.cells #[.int .i64 (Z k).v, .int .i64 (Z k).s, .bool (Z k).b] 64)).cell? ⟨wr.heap.size, 1, none⟩ = some (.int .i64 (Z k).s) := by rw [cell_of_row _ _ 1 _ _ _ hz]; rfl
      have d2 : (wr.alloc (.cells #[.int .i64 (Z k).v, .int .i64 (Z k).s, .bool (Z k).b] 64)).cell? ⟨wr.heap.size, 2, none⟩ = some (.bool (Z k).b) := by rw [cell_of_row _ _ 2 _ _ _ hz]; rfl
      have HX := hide (And.intro h1 (And.intro hb1 hL))
      clear hc h1 hb1 hT hM hz hL e0
      go_upto_region 5 with (refine load_st 64 _ Try.underlying64 rfl [.int .i64 (Z k).v, .int .i64 (Z k).s, .bool (Z k).b] info50 ?hw1 _ rfl (x.add (k * 3)) rfl HC.out ?_)
      clear HC
      generalize wr.alloc (.cells #[.int .i64 (Z k).v, .int .i64 (Z k).s, .bool (Z k).b] 64) = w2 at *
      generalize wr.heap.size = M at *
      by_cases hc : code mk (Z k).v (Z k).s = 0
      · go_wp2_with fail
        refine (map_good w2 N mk _ _ _ HX.out.1 hc).mono ?_
        rintro e w3 ⟨rfl, h3, hm3⟩
        have hb3 : Below N w w3 := HX.out.2.1.trans (hm3.below (fun b hb => by rw [hb]; exact Nat.le_refl _) (by rw [← hN]; exact HX.out.2.1.size))
        have HY := hide (And.intro (lay_ok HX.out.2.2 hc) (And.intro h3 hb3))
        clear HX h3 hm3 hb3 d0 d1 d2
        go_wp2
        go_roundw
        case rel => exact ⟨k + 1, _, by omega, by go_num, HY.out⟩
        case measure => simp [intOf]; omega
      · have hcc := hc
        generalize hq : code mk (Z k).v (Z k).s = c at *
        go_wp2_with fail
        have hq2 : code mk (Z k).v (Z k).s ≠ 0 := by rw [hq]; exact hc
        refine (map_bad w2 N mk _ _ _ HX.out.1 hq2).mono ?_
        rw [hq]
        rintro e w3 ⟨rfl, rfl⟩
        have HY := hide (And.intro (lay_bad HX.out.2.2 hq2 hlt) HX.out.2.1)
        clear HX d0 d1 d2 hcc
        go_wp2
        go_ret
        subst hN
        exact .inl ⟨_, by rw [HY.out.1, hq], rfl, HY.out.2⟩
    · obtain rfl : k = len := by omega
      have hd : decide (k < k) = false := by simp
      have hb := H.out.1.below (by rw [hN]; exact hM)
      have hne : B ≠ N := by have := H.out.1.lt; omega
      have hi58 : (Try.prog.info? 49).map (·.size) = some (tc mk).toArray.size := by simp only [List.size_toArray, tc_len]; exact info58
      have HX := hide (And.intro hL (And.intro hT (And.intro hM hb)))
      clear hL hT hM hb H
      go_wp2_with (first
        | refine wpList_load_row rfl 49 _ rfl N rfl 51 (tc mk).toArray (0, 0) _ HX.out.2.1.out Try.underlying49 rfl hi58 ?_
        | refine wpList_store_row rfl 49 _ _ rfl B (tc mk).toArray rfl rfl 51 _ HX.out.2.2.2.out hi58 (by simp only [List.size_toArray, tc_len]) (all_oneCell_toArray (tc_one mk)) ?_)
      go_ret
      refine .inr ⟨mk, HX.out.1, rfl, ⟨setRow_heap _ _ _ _ _ _ HX.out.2.2.2.out⟩, ?_⟩
      subst hN
      exact (Mod.of_below (F := fun b => b = B) HX.out.2.2.1).setRow (g := B) (.inl rfl) _
end
end Go.Proofs.Ytmflohehnoghhaa
