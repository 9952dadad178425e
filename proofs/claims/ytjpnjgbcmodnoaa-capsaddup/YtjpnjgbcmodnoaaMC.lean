import Derived.Test.YtjpnjgbcmodnoaaR5
import Derived.Test.YtjpnjgbcmodnoaaX4
import Derived.Laws.EntriesVeiled
import Derived.Test.YtjpnjgbcmodnoaaMY
namespace Go.Proofs.Ytjpnjgbcmodnoaa
open Go.RowKit

set_option maxHeartbeats 400000 in
theorem thing_any (w : World) (r : Rc) : Calls Try.prog 28 #[r.val] w fun e w' => e = .returned (.agg #[.int .i64 r.k, .int .i64 r.s]) ∧ Below w.heap.size w w' := by
  have hb := fun o o' => ((Below.refl w.heap.size w).alloc (Nat.le_refl _) o).alloc (by simp) o'
  simp only [Rc.val]
  go_enter Try.func28, Try.ntmps28
  go_wp2
  go_returns
  exact ⟨rfl, hb _ _⟩
set_option maxHeartbeats 400000 in
theorem kind_any (w : World) (r : Rc) : Calls Try.prog 34 #[r.val] w fun e w' => e = .returned (.int .i64 r.k) ∧ Below w.heap.size w w' := by
  have hb := fun o => (Below.refl w.heap.size w).alloc (Nat.le_refl _) o
  simp only [Rc.val]
  go_enter Try.func34, Try.ntmps34
  go_wp2
  go_ret
  exact ⟨rfl, hb _⟩
set_option maxHeartbeats 1600000 in
theorem fits_thing (bf bv : Nat) (x y : Int) : Fits 57 bf bv (.cells #[.func (.func 28) #[] #[]] 77 (0, 0)) (.cells #[.int .i64 x, .int .i64 y] 76 (0, 0)) (fun r => decide (r.k = x) && decide (r.s = y)) where
  run := by
    intro W r hf hv
    have hB := fun o => (Below.refl W.heap.size W).alloc (Nat.le_refl _) o
    have HP := hide (fun W => thing_any W r)
    simp only [Rc.val] at HP ⊢
    have hR := heap_alloc_new W (.cells #[.int .i64 r.k, .int .i64 r.o, .int .i64 r.s, .int .i64 r.r, .int .i64 r.e, .int .i64 r.t] 68)
    have hf1 := (Below.heap_alloc W (.cells #[.int .i64 r.k, .int .i64 r.o, .int .i64 r.s, .int .i64 r.r, .int .i64 r.e, .int .i64 r.t] 68) bf (Array.getElem?_eq_some_iff.1 hf).1).trans hf
    have hv1 := (Below.heap_alloc W (.cells #[.int .i64 r.k, .int .i64 r.o, .int .i64 r.s, .int .i64 r.r, .int .i64 r.e, .int .i64 r.t] 68) bv (Array.getElem?_eq_some_iff.1 hv).1).trans hv
    have HB := hide (hB (.cells #[.int .i64 r.k, .int .i64 r.o, .int .i64 r.s, .int .i64 r.r, .int .i64 r.e, .int .i64 r.t] 68))
    have HS : W.heap.size ≤ (W.alloc (.cells #[.int .i64 r.k, .int .i64 r.o, .int .i64 r.s, .int .i64 r.r, .int .i64 r.e, .int .i64 r.t] 68)).heap.size := by simp
    clear hf hv hB
    go_enter Try.func57, Try.ntmps57
    go_wp2_with fail
    generalize W.alloc (.cells #[.int .i64 r.k, .int .i64 r.o, .int .i64 r.s, .int .i64 r.r, .int .i64 r.e, .int .i64 r.t] 68) = W1 at *
    refine region_below (by kernel_rfl) (by kernel_rfl) ?_
    refine wpQuiet_step (fun K hK => ?_)
    go_simp
    refine ⟨.func (.func 28) #[] #[], fun w' hw' => ?_, hK _ ?_⟩
    · have c0 := blk1 ((hw'.block bf (Array.getElem?_eq_some_iff.1 hf1).1).trans hf1)
      go_simp
    clear hK K
    refine wpQuiet_step (fun K hK => ?_)
    go_simp
    refine ⟨.agg #[.int .i64 r.k, .int .i64 r.o, .int .i64 r.s, .int .i64 r.r, .int .i64 r.e, .int .i64 r.t], fun w' hw' => ?_, hK _ ?_⟩
    · obtain ⟨d0, d1, d2, d3, d4, d5, _, _, _, _, _, _⟩ := blk6 ((hw'.block W.heap.size (Array.getElem?_eq_some_iff.1 hR).1).trans hR)
      go_simp
    clear hK K
    refine wpQuiet_step (fun K hK => ?_)
    go_simp
    refine ⟨.agg #[.int .i64 r.k, .int .i64 r.s], fun w' hw' => calls_below hw' (HP.out w'), hK _ ?_⟩
    clear hK K
    refine wpQuiet_step (fun K hK => ?_)
    go_simp
    refine ⟨.agg #[.int .i64 x, .int .i64 y], fun w' hw' => ?_, hK _ ?_⟩
    · obtain ⟨d0, d1, _, _⟩ := blk2 ((hw'.block bv (Array.getElem?_eq_some_iff.1 hv1).1).trans hv1)
      go_simp
    clear hK K
    refine wpQuiet_step (fun K hK => ?_)
    go_simp
    refine ⟨.bool (decide (r.k = x) && decide (r.s = y)), fun w' hw' => ?_, hK _ ?_⟩
    · by_cases h1 : r.k = x <;> by_cases h2 : r.s = y <;> simp [h1, h2]
    clear hK K
    refine wpQuiet_step (fun K hK => ?_)
    go_simp
    refine ⟨_, fun _ _ => rfl, hK _ ?_⟩
    clear hK K
    refine wpQuiet_nil ?_
    intro w' hw'
    go_wp2
    go_ret
    exact ⟨rfl, HB.out.trans (hw'.mono HS)⟩
  ent := enters_of Try.func57 (by kernel_rfl) rfl
set_option maxHeartbeats 1600000 in
theorem fits_kind (bf bv : Nat) (x : Int) : Fits 58 bf bv (.cells #[.func (.func 34) #[] #[]] 82 (0, 0)) (.cells #[.int .i64 x] 3 (0, 0)) (fun r => decide (r.k = x)) where
  run := by
    intro W r hf hv
    have hB := fun o => (Below.refl W.heap.size W).alloc (Nat.le_refl _) o
    have HP := hide (fun W => kind_any W r)
    simp only [Rc.val] at HP ⊢
    have hR := heap_alloc_new W (.cells #[.int .i64 r.k, .int .i64 r.o, .int .i64 r.s, .int .i64 r.r, .int .i64 r.e, .int .i64 r.t] 68)
    have hf1 := (Below.heap_alloc W (.cells #[.int .i64 r.k, .int .i64 r.o, .int .i64 r.s, .int .i64 r.r, .int .i64 r.e, .int .i64 r.t] 68) bf (Array.getElem?_eq_some_iff.1 hf).1).trans hf
    have hv1 := (Below.heap_alloc W (.cells #[.int .i64 r.k, .int .i64 r.o, .int .i64 r.s, .int .i64 r.r, .int .i64 r.e, .int .i64 r.t] 68) bv (Array.getElem?_eq_some_iff.1 hv).1).trans hv
    have HB := hide (hB (.cells #[.int .i64 r.k, .int .i64 r.o, .int .i64 r.s, .int .i64 r.r, .int .i64 r.e, .int .i64 r.t] 68))
    have HS : W.heap.size ≤ (W.alloc (.cells #[.int .i64 r.k, .int .i64 r.o, .int .i64 r.s, .int .i64 r.r, .int .i64 r.e, .int .i64 r.t] 68)).heap.size := by simp
    clear hf hv hB
    go_enter Try.func58, Try.ntmps58
    go_wp2_with fail
    generalize W.alloc (.cells #[.int .i64 r.k, .int .i64 r.o, .int .i64 r.s, .int .i64 r.r, .int .i64 r.e, .int .i64 r.t] 68) = W1 at *
    refine region_below (by kernel_rfl) (by kernel_rfl) ?_
    refine wpQuiet_step (fun K hK => ?_)
    go_simp
    refine ⟨.func (.func 34) #[] #[], fun w' hw' => ?_, hK _ ?_⟩
    · have c0 := blk1 ((hw'.block bf (Array.getElem?_eq_some_iff.1 hf1).1).trans hf1)
      go_simp
    clear hK K
    refine wpQuiet_step (fun K hK => ?_)
    go_simp
    refine ⟨.agg #[.int .i64 r.k, .int .i64 r.o, .int .i64 r.s, .int .i64 r.r, .int .i64 r.e, .int .i64 r.t], fun w' hw' => ?_, hK _ ?_⟩
    · obtain ⟨d0, d1, d2, d3, d4, d5, _, _, _, _, _, _⟩ := blk6 ((hw'.block W.heap.size (Array.getElem?_eq_some_iff.1 hR).1).trans hR)
      go_simp
    clear hK K
    refine wpQuiet_step (fun K hK => ?_)
    go_simp
    refine ⟨.int .i64 r.k, fun w' hw' => calls_below hw' (HP.out w'), hK _ ?_⟩
    clear hK K
    refine wpQuiet_step (fun K hK => ?_)
    go_simp
    refine ⟨.int .i64 x, fun w' hw' => ?_, hK _ ?_⟩
    · have d0 := blk1 ((hw'.block bv (Array.getElem?_eq_some_iff.1 hv1).1).trans hv1)
      go_simp
    clear hK K
    refine wpQuiet_step (fun K hK => ?_)
    go_simp
    refine ⟨.bool (decide (r.k = x)), fun w' hw' => ?_, hK _ ?_⟩
    · by_cases h1 : r.k = x <;> simp [h1]
    clear hK K
    refine wpQuiet_step (fun K hK => ?_)
    go_simp
    refine ⟨_, fun _ _ => rfl, hK _ ?_⟩
    clear hK K
    refine wpQuiet_nil ?_
    intro w' hw'
    go_wp2
    go_ret
    exact ⟨rfl, HB.out.trans (hw'.mono HS)⟩
  ent := enters_of Try.func58 (by kernel_rfl) rfl
set_option maxHeartbeats 400000 in
theorem same_thing (W : World) (x y : Int) : Calls Try.prog 27 #[.func (.func 28) #[] #[], .agg #[.int .i64 x, .int .i64 y]] W fun e w' => e = .returned (fv 57 W.heap.size (W.heap.size + 1)) ∧
    w'.heap[W.heap.size]? = some (.cells #[.func (.func 28) #[] #[]] 77 (0, 0)) ∧ w'.heap[W.heap.size + 1]? = some (.cells #[.int .i64 x, .int .i64 y] 76 (0, 0)) ∧ Below W.heap.size W w' := by
  have hb := fun o o' => ((Below.refl W.heap.size W).alloc (Nat.le_refl _) o).alloc (by simp) o'
  have h1 := fun o o' => heap_alloc2_old W o o'
  have h2 := fun o o' => heap_alloc2_new W o o'
  go_enter Try.func27, Try.ntmps27
  go_wp2
  go_ret
  exact ⟨rfl, h1 _ _, h2 _ _, hb _ _⟩
set_option maxHeartbeats 400000 in
theorem same_kind (W : World) (x : Int) : Calls Try.prog 33 #[.func (.func 34) #[] #[], .int .i64 x] W fun e w' => e = .returned (fv 58 W.heap.size (W.heap.size + 1)) ∧
    w'.heap[W.heap.size]? = some (.cells #[.func (.func 34) #[] #[]] 82 (0, 0)) ∧ w'.heap[W.heap.size + 1]? = some (.cells #[.int .i64 x] 3 (0, 0)) ∧ Below W.heap.size W w' := by
  have hb := fun o o' => ((Below.refl W.heap.size W).alloc (Nat.le_refl _) o).alloc (by simp) o'
  have h1 := fun o o' => heap_alloc2_old W o o'
  have h2 := fun o o' => heap_alloc2_new W o o'
  go_enter Try.func33, Try.ntmps33
  go_wp2
  go_ret
  exact ⟨rfl, h1 _ _, h2 _ _, hb _ _⟩
/-- how many of a kind lie in a list -/
def cnt (bk : List (Option Lst)) (e k : Int) : Nat := match look bk e with | none => 0 | some l => (fit (fun r => decide (r.k = k)) (prs l 0)).length
set_option maxHeartbeats 1600000 in
theorem count_any (w : World) (F : Nat → Prop) (B : Nat) (bk : List (Option Lst)) (h : Book w F B bk) (e k : Int) :
    Calls Try.prog 12 #[.pointer (some ⟨B, 0, none⟩), .int .i64 e, .int .i64 k] w fun x w' => x = .returned (.int .i64 ((cnt bk e k : Nat) : Int)) ∧ Below w.heap.size w w' := by
  obtain ⟨T, G, m, fs, hA⟩ := h
  have c0 := hA.cell
  have HG := hide (getL_any _ G T m hA.tab e)
  rcases hA.cases e with ⟨h1, h2⟩ | ⟨i, b, l, rfl, h1, h2, h3, h4, h5, h6⟩
  · have hc : cnt bk e k = 0 := by unfold cnt; rw [h2]
    rw [h1] at HG
    simp only [ptr, Option.isSome_none] at HG
    rw [hc]
    clear hA h1 h2 hc
    go_enter Try.func12, Try.ntmps12
    go_wp2_with fail
    refine HG.out.mono ?_
    rintro e1 w1 ⟨rfl, rfl⟩
    go_wp2
    go_ret
    exact ⟨rfl, Below.refl _ _⟩
  · have hc : cnt bk (i : Int) k = (fit (fun r => decide (r.k = k)) (prs l 0)).length := by unfold cnt; rw [h4]
    rw [h3] at HG
    simp only [ptr, Option.isSome_some] at HG
    have HT := hide h6
    rw [hc]
    clear hA h1 h2 h3 h4 h5 h6 hc
    go_enter Try.func12, Try.ntmps12
    go_wp2_with fail
    refine HG.out.mono ?_
    rintro e1 w1 ⟨rfl, rfl⟩
    go_wp2_with fail
    refine (same_kind w1 k).mono ?_
    rintro e w4 ⟨rfl, hf4, hv4, hb4⟩
    go_wp2_with fail
    refine (fitting_any (fs i) b l w4 (HT.out.below hb4) 58 w1.heap.size (w1.heap.size + 1) _ _ _ (fits_kind _ _ k) hf4 hv4).mono ?_
    rintro e w5 ⟨v5, rfl, hrow, hb5⟩
    obtain ⟨a5, c5, rfl⟩ := own_shape hrow
    have HB := hide (hb4.trans (hb5.mono hb4.size))
    clear hrow hb5 hb4 hf4 hv4
    go_wp2
    go_ret
    exact ⟨rfl, HB.out⟩
end Go.Proofs.Ytjpnjgbcmodnoaa

namespace Go.Proofs.Ytjpnjgbcmodnoaa
open Go.RowKit Go.Shelf
attribute [local go_sem] Oper.semAt_some

/-- what Find looks for -/
def wants (k s rt : Int) (r : Rc) : Bool := (decide (r.k = k) && decide (r.s = s)) && (bits .andNot .i64 rt r.r == 0)
/-- the lowest, or none -/
def Fnd (P : Rc → Bool) (l : Lst) (v : Int) : Prop :=
  (v = -1 ∧ ∀ y ∈ prs l 0, P y.2 = false) ∨ ∃ (p0 q : List (Nat × Rc)) (k : Nat) (r : Rc), prs l 0 = p0 ++ (k, r) :: q ∧ P r = true ∧ (∀ y ∈ p0, P y.2 = false) ∧ v = (k : Int)
set_option maxRecDepth 100000 in
set_option maxHeartbeats 8000000 in
theorem find_in (n : Nat) (hn : 3 ≤ n) (F : Nat → Prop) (B T : Nat) (G : Nat → Prop) (m : List (Option Nat)) (fs : Nat → Nat → Prop) (bk : List (Option Lst)) (w : World) (hBk : BookAt w F B T G m fs bk) (i : Nat) (l : Lst) (hl : bk[i]? = some (some l)) (k s rt : Int) (hrt : 0 ≤ rt ∧ rt ≤ 15) :
    CallsIn Fence.wide n Try.prog 9 #[.pointer (some ⟨B, 0, none⟩), .int .i64 (i : Int), .int .i64 k, .int .i64 s, .int .i64 rt] w fun e W' => ∃ v, e = .returned (.int .i64 v) ∧ Fnd (wants k s rt) l v ∧ Below w.heap.size w W' := by
  have h1 : 1 ≤ n := by omega
  obtain ⟨b, hm, hlm, h48, hTl⟩ := hBk.open' hl
  have hb0 : Below w.heap.size w ((w.alloc (.cells #[.int .i64 rt] 3)).alloc (.cells #[.int .i64 0] 3)) := ((Below.refl _ w).alloc (Nat.le_refl _) _).alloc (by simp) _
  have hA := hBk.keep (w' := (w.alloc (.cells #[.int .i64 rt] 3)).alloc (.cells #[.int .i64 0] 3)) hb0.size (fun x hx => hb0.block x (hBk.lt x hx))
  have c0 := hA.cell
  have HG := hide (getL_any _ G T m hA.tab i)
  rw [hlm] at HG
  simp only [ptr, Option.isSome_some] at HG
  have HAr := hide (fun W => areRights_any W rt)
  have hdr : decide (0 ≤ rt ∧ rt ≤ 15) = true := by simp; exact hrt
  rw [hdr] at HAr
  have bR : Boxed ((w.alloc (.cells #[.int .i64 rt] 3)).alloc (.cells #[.int .i64 0] 3)) w.heap.size 3 (.int .i64 rt) := (Boxed.new w 3 (.int .i64 rt)).alloc _
  have bO : Boxed ((w.alloc (.cells #[.int .i64 rt] 3)).alloc (.cells #[.int .i64 0] 3)) (w.heap.size + 1) 3 (.int .i64 0) := by
    have h9 := Boxed.new (w.alloc (.cells #[.int .i64 rt] 3)) 3 (.int .i64 0)
    rw [World.size_alloc] at h9
    exact h9
  have hT1 := hTl.below hb0
  have hFl : ∀ x, fs i x → x < w.heap.size := hTl.lt
  clear hA hBk hm hlm hdr hTl
  refine callsIn_of_wp_marks Try.func9 rfl trivial ?_ rfl
  simp only [Try.ntmps9, List.size_toArray, List.length_cons, List.length_nil, Nat.reduceAdd, Nat.reduceSub, Array.replicate_succ, Array.replicate_zero, List.push_toArray, List.append_toArray, List.nil_append, List.cons_append]
  gi_wp2_with fail
  generalize (w.alloc (.cells #[.int .i64 rt] 3)).alloc (.cells #[.int .i64 0] 3) = w1 at *
  have cR := bR.cell
  refine ⟨trivial, (callsIn_wide.2 HG.out).mono ?_⟩
  rintro e w9 ⟨rfl, hw9⟩
  rw [hw9]
  clear hw9 w9
  gi_wp2_with fail
  refine ⟨trivial, (callsIn_wide.2 (HAr.out _)).mono ?_⟩
  rintro e w9 ⟨rfl, hw9⟩
  rw [hw9]
  clear hw9 w9 HAr HG cR c0
  gi_wp2_with fail
  refine ⟨trivial, (callsIn_wide.2 (same_thing _ k s)).mono ?_⟩
  rintro e w4 ⟨rfl, hf4, hv4, hb4⟩
  have cC := (Boxed.new w4 73 .nilFunc).cell
  have fC := (Boxed.new w4 73 .nilFunc).frozen
  simp only [fv]
  gi_wp2_with fail
  refine ⟨trivial, (allR_in b (n - 1) _).mono ?_⟩
  rintro e w9 ⟨rfl, rfl⟩
  gi_wp2_with fail
  have hb5 : Below w4.heap.size w4 ((w4.alloc (.cells #[.func (.func 57) #[] #[.pointer (some ⟨w1.heap.size, 0, none⟩), .pointer (some ⟨w1.heap.size + 1, 0, none⟩)]] 73)).alloc (.cells #[.pointer (some ⟨b, 0, none⟩)] 58)) := ((Below.refl _ w4).alloc (Nat.le_refl _) _).alloc (by simp) _
  have c13 : Boxed ((w4.alloc (.cells #[.func (.func 57) #[] #[.pointer (some ⟨w1.heap.size, 0, none⟩), .pointer (some ⟨w1.heap.size + 1, 0, none⟩)]] 73)).alloc (.cells #[.pointer (some ⟨b, 0, none⟩)] 58)) w4.heap.size 73 (.func (.func 57) #[] #[.pointer (some ⟨w1.heap.size, 0, none⟩), .pointer (some ⟨w1.heap.size + 1, 0, none⟩)]) := (Boxed.new w4 73 (.func (.func 57) #[] #[.pointer (some ⟨w1.heap.size, 0, none⟩), .pointer (some ⟨w1.heap.size + 1, 0, none⟩)])).alloc _
  have hbox : ((w4.alloc (.cells #[.func (.func 57) #[] #[.pointer (some ⟨w1.heap.size, 0, none⟩), .pointer (some ⟨w1.heap.size + 1, 0, none⟩)]] 73)).alloc (.cells #[.pointer (some ⟨b, 0, none⟩)] 58)).heap[w4.heap.size + 1]? = some (.cells #[.pointer (some ⟨b, 0, none⟩)] 58 (0, 0)) := by
    have h9 := heap_alloc_new (w4.alloc (.cells #[.func (.func 57) #[] #[.pointer (some ⟨w1.heap.size, 0, none⟩), .pointer (some ⟨w1.heap.size + 1, 0, none⟩)]] 73)) (.cells #[.pointer (some ⟨b, 0, none⟩)] 58)
    rw [World.size_alloc] at h9
    exact h9
  have hsz : ((w4.alloc (.cells #[.func (.func 57) #[] #[.pointer (some ⟨w1.heap.size, 0, none⟩), .pointer (some ⟨w1.heap.size + 1, 0, none⟩)]] 73)).alloc (.cells #[.pointer (some ⟨b, 0, none⟩)] 58)).heap.size = w4.heap.size + 2 := by simp
  generalize (w4.alloc (.cells #[.func (.func 57) #[] #[.pointer (some ⟨w1.heap.size, 0, none⟩), .pointer (some ⟨w1.heap.size + 1, 0, none⟩)]] 73)).alloc (.cells #[.pointer (some ⟨b, 0, none⟩)] 58) = W0 at *
  clear cC fC
  have hb14 : Below w.heap.size w w4 := hb0.trans (hb4.mono hb0.size)
  have hs14 : w.heap.size + 2 ≤ w4.heap.size := by have h9 := hb4.size; have h8 := bO.lt; omega
  have hG : ∀ y, (fs i y ∨ y = w4.heap.size + 1) → y < W0.heap.size := by
    rintro y (hy | rfl)
    · have := hFl y hy; omega
    · omega
  have hlen : (prs l 0).length ≤ 48 := by rw [prs_len, ← h48]; exact count_le
  have bR4 := boxed_below bR hb4
  have bO4 := boxed_below bO hb4
  refine wpIn_rangeFunc_ownH rfl h1 (gf := 54) (lb := #[.pointer (some ⟨w4.heap.size + 1, 0, none⟩)]) rfl trivial (enters_of Try.func54 (by kernel_rfl) rfl)
    (allR_stops (n - 1) (by omega) (w4.heap.size + 1) b (fs i) l _ hbox ((hT1.below hb4).below hb5)) keepF_t (keepF_b hG) (Below.refl _ _) (fun _ => rfl)
    (fun pre W => ((∀ y ∈ pre.map Subtype.val, wants k s rt y.2 = false) ∧ Boxed W w4.heap.size 73 (.func (.func 57) #[] #[.pointer (some ⟨w1.heap.size, 0, none⟩), .pointer (some ⟨w1.heap.size + 1, 0, none⟩)]) ∧ Boxed W (w4.heap.size + 1) 58 (.pointer (some ⟨b, 0, none⟩)) ∧ pre.length ≤ (prs l 0).length) ∧ Below w4.heap.size w4 W)
    (fun c pre W => (c = .ret ∧ ∃ p0 j r, pre.map Subtype.val = p0 ++ [(j, r)] ∧ wants k s rt r = true ∧ (∀ y ∈ p0, wants k s rt y.2 = false) ∧ Boxed W (w.heap.size + 1) 3 (.int .i64 (j : Nat))) ∧ Below w.heap.size w W)
    (OwnFrom.and (Own.from (fun s A A' row hs hg hr => ⟨hs.1,
        hs.2.1.kept hg (fun e => by obtain ⟨o, h1, h2⟩ := hr _ e.symm; rw [show A.heap[w4.heap.size]? = _ from hs.2.1] at h1; cases h1; cases h2),
        hs.2.2.1.kept hg (fun e => by obtain ⟨o, h1, h2⟩ := hr _ e.symm; rw [show A.heap[w4.heap.size + 1]? = _ from hs.2.2.1] at h1; cases h1; cases h2), hs.2.2.2⟩) _) (ownFrom_below (Nat.le_refl _) (by omega)))
    (fun c => OwnFrom.and (Own.from (fun s A A' row hs hg hr => ⟨hs.1, by obtain ⟨_, p0, j, r, e1, e2, e3, e4⟩ := hs; exact ⟨p0, j, r, e1, e2, e3, e4.kept hg (fun e => by obtain ⟨o, h1, h2⟩ := hr _ e.symm; rw [show A.heap[w.heap.size + 1]? = _ from e4] at h1; cases h1; cases h2)⟩⟩) _) (ownFrom_below (by omega) (by omega)))
    ⟨⟨by simp, c13, hbox, by simp⟩, hb5⟩
    (fun x a' W => ∃ q, W.heap[q]? = some (.cells #[.int .i64 x.1.2.k, .int .i64 x.1.2.o, .int .i64 x.1.2.s, .int .i64 x.1.2.r, .int .i64 x.1.2.e, .int .i64 x.1.2.t] 68 (0, 0)) ∧ w4.heap.size ≤ q ∧ a' = { tmps := #[.pointer (some ⟨B, 0, none⟩), .int .i64 (i : Int), .int .i64 k, .int .i64 s, .int .i64 rt, undef, undef, undef, undef, .pointer (some ⟨w.heap.size, 0, none⟩), .pointer (some ⟨w.heap.size + 1, 0, none⟩), .pointer (some ⟨b, 0, none⟩), .bool true, .pointer (some ⟨w4.heap.size, 0, none⟩), .int .i64 (x.1.1 : Nat), .pointer (some ⟨q, 0, none⟩), .tuple #[.pointer (some ⟨b, 0, none⟩), .bool true], .pointer (some ⟨B, 0, none⟩), .pointer (some ⟨B, 0, none⟩), .pointer (some ⟨B, 0, none⟩), .pointer (some ⟨T, 0, none⟩), .int .i64 (i : Int), .tuple #[.pointer (some ⟨b, 0, none⟩), .bool true], .pointer (some ⟨b, 0, none⟩), .bool true, .bool true, .bool false, .bool false, .int .i64 rt, .bool true, .bool false, .bool false, .int .i64 k, .int .i64 s, .agg #[.int .i64 k, .int .i64 s], .func (.func 57) #[] #[.pointer (some ⟨w1.heap.size, 0, none⟩), .pointer (some ⟨w1.heap.size + 1, 0, none⟩)], .pointer (some ⟨b, 0, none⟩), .func (.func 54) #[] #[.pointer (some ⟨w4.heap.size + 1, 0, none⟩)], .int .i64 (x.1.1 : Nat), .agg #[.int .i64 x.1.2.k, .int .i64 x.1.2.o, .int .i64 x.1.2.s, .int .i64 x.1.2.r, .int .i64 x.1.2.e, .int .i64 x.1.2.t], undef, undef, undef, undef, undef, undef, undef, undef, undef], defers := [] })
    (fun x a' _ X Y row hs hg hr => by
      obtain ⟨q, h1, h3, h2⟩ := hs
      exact ⟨q, (hg.block q (Array.getElem?_eq_some_iff.1 h1).1 (fun e => by obtain ⟨o, h3, h4⟩ := (hr q e.symm).2; rw [h1] at h3; cases h3; cases h4)).trans h1, h3, h2⟩)
    ?assign ?body ?done ?stop
  case assign =>
    rintro l' pre x W K ⟨⟨hno, bF, bA, hpl⟩, hB⟩ hK
    obtain ⟨⟨xi, xr⟩, hx⟩ := x
    simp only [Rc.val] at hK ⊢
    gi_wp2
    exact hK _ _ ((KeepsOthers.alloc _ _).from _) ⟨by simp, fun c hc => Below.heap_alloc _ _ _ (by rcases hc with hc | rfl; have := hFl c hc; have := hB.size; omega; exact bA.lt)⟩ ⟨⟨hno, bF.alloc _, bA.alloc _, hpl⟩, hB.alloc hB.size _⟩ ⟨W.heap.size, heap_alloc_new W _, hB.size, rfl⟩
  case body =>
    rintro l' pre x a' W hl' ⟨r', hr'⟩ ⟨⟨hno, bF, bA, hpl⟩, hB⟩ ⟨q, hq, hq4, rfl⟩ hlt
    obtain ⟨⟨xi, xr⟩, hx⟩ := x
    have cF := bF.cell
    obtain ⟨d0, d1, d2, d3, d4, d5, _, _, _, _, _, _⟩ := blk6 hq
    have hFt := fits_thing w1.heap.size (w1.heap.size + 1) k s
    have HC := hide (hFt.run W xr ((hB.block _ (Array.getElem?_eq_some_iff.1 hf4).1).trans hf4) ((hB.block _ (Array.getElem?_eq_some_iff.1 hv4).1).trans hv4))
    have he := hFt.ent
    simp only [Rc.val] at HC cF ⊢
    gi_wp2_with fail
    refine ⟨trivial, fun _ => by omega, (CallsIn.inRound l' (callsIn_wide.2 HC.out)).mono ?_⟩
    rintro e W2 ⟨rfl, hb2⟩
    have bF2 := boxed_below bF hb2
    have bA2 := boxed_below bA hb2
    have hB2 := hB.trans (hb2.mono hB.size)
    have hq2 := (hb2.block q (Array.getElem?_eq_some_iff.1 hq).1).trans hq
    have hK2 : KeepF (fun y => fs i y ∨ y = w4.heap.size + 1) W W2 := ⟨hb2.size, fun y hy => hb2.block y (by rcases hy with hy | rfl; have := hFl y hy; have := hB.size; omega; exact bA.lt)⟩
    have hO2 := (keepsOthers_below hb2).from W0.heap.size
    have bR2 : Boxed W2 w.heap.size 3 (.int .i64 rt) := (hB2.block _ bR4.lt).trans bR4
    have bQ2 : Boxed W2 (w.heap.size + 1) 3 (.int .i64 0) := (hB2.block _ bO4.lt).trans bO4
    clear HC d0 d1 d2 d3 d4 d5 hq he cF bF bA hB hb2
    cases hP : (decide (xr.k = k) && decide (xr.s = s))
    · have hw9 : wants k s rt xr = false := by unfold wants; rw [hP]; rfl
      gi_wp2_with fail
      refine ⟨trivial, ?_⟩
      gi_wp2
      refine ⟨hO2, hK2, ⟨fun y hy => ?_, bF2, bA2, by simp; omega⟩, hB2⟩
      rw [List.map_append, List.map_cons, List.map_nil] at hy
      rcases List.mem_append.1 hy with h9 | h9
      · exact hno y h9
      · simp at h9; rw [h9]; exact hw9
    · obtain ⟨d0, d1, d2, d3, d4, d5, _, _, _, _, _, _⟩ := blk6 hq2
      have cR2 := bR2.cell
      have HH := hide (has_any W2 xr rt)
      simp only [Rc.val] at HH
      gi_wp2_with fail
      refine ⟨trivial, fun _ => by omega, (CallsIn.inRound l' (callsIn_wide.2 HH.out)).mono ?_⟩
      rintro e W3 ⟨rfl, hb3⟩
      have bF3 := boxed_below bF2 hb3
      have bA3 := boxed_below bA2 hb3
      have hB3 := hB2.trans (hb3.mono hB2.size)
      have hK3 : KeepF (fun y => fs i y ∨ y = w4.heap.size + 1) W W3 := keepF_t hK2 ⟨hb3.size, fun y hy => hb3.block y (by rcases hy with hy | rfl; have := hFl y hy; have := hB2.size; omega; exact bA2.lt)⟩
      have hO3 := hO2.trans ((keepsOthers_below hb3).from W0.heap.size)
      have bQ3 := boxed_below bQ2 hb3
      clear d0 d1 d2 d3 d4 d5 cR2 HH hb3 hq2 bF2 bA2 hB2 hK2 hO2 bQ2 bR2
      cases hW : (bits .andNot .i64 rt xr.r == 0)
      · have hw9 : wants k s rt xr = false := by unfold wants; rw [hP, hW]; rfl
        gi_wp2
        refine ⟨hO3, hK3, ⟨fun y hy => ?_, bF3, bA3, by simp; omega⟩, hB3⟩
        rw [List.map_append, List.map_cons, List.map_nil] at hy
        rcases List.mem_append.1 hy with h9 | h9
        · exact hno y h9
        · simp at h9; rw [h9]; exact hw9
      · have hw9 : wants k s rt xr = true := by unfold wants; rw [hP, hW]; rfl
        have cQ := bQ3.cell
        have fQ := bQ3.frozen
        gi_wp2
        refine ⟨hO3.trans ((KeepsOthers.setCell _ _ _).from _), ⟨rfl, List.map Subtype.val pre, xi, xr, by rw [List.map_append]; rfl, hw9, hno, bQ3.set _⟩, ?_⟩
        exact (hb14.trans (hB3.mono (by omega))).setCell (p := ⟨w.heap.size + 1, 0, none⟩) (by simp) _
  case done =>
    rintro D ys W hD hys ⟨⟨hno, bF, bA, hpl⟩, hB⟩ hK
    have bO5 : Boxed W (w.heap.size + 1) 3 (.int .i64 0) := (hB.block _ bO4.lt).trans bO4
    have cQ := bO5.cell
    have fQ := bO5.frozen
    gi_wp2
    have hK' := (KeepsOthers.setCell W ⟨w.heap.size + 1, 0, none⟩ (.int .i64 (-1))).same D _ hK rfl
    refine ⟨by simp, .inl ⟨_, _, rfl, run_takeDeferred hK', ?_⟩⟩
    have hc5 := cell_kept (bO5.set (.int .i64 (-1))).cell (grownBy_putObj' _ D (.deferred none)) (fun r e => by cases e; exact ⟨_, hK', rfl⟩)
    refine ⟨.int .i64 (-1), ?_, -1, rfl, .inl ⟨rfl, by rw [← hys]; exact hno⟩, ((hb14.trans (hB.mono (by omega))).setCell (p := ⟨w.heap.size + 1, 0, none⟩) (by simp) _).trans (belowK_b (w := w) (Nat.le_refl _) _ D _ _ (by omega) hK' rfl rfl)⟩
    simp [results, Try.f9, go_sem, hc5]
  case stop =>
    rintro D c pre W hD hpre ⟨⟨rfl, p0, j, r, hpr, hw, h0, bQ⟩, hB⟩ hK
    have cQ := bQ.cell
    gi_wp2
    refine ⟨by simp, .inl ⟨_, _, rfl, run_takeDeferred hK, ?_⟩⟩
    have hc5 := cell_kept cQ (grownBy_putObj' _ D (.deferred none)) (fun r e => by cases e; exact ⟨_, hK, rfl⟩)
    refine ⟨.int .i64 (j : Nat), ?_, (j : Int), rfl, .inr ?_, hB.trans (belowK_b (w := w) (Nat.le_refl _) W D _ _ (by omega) hK rfl rfl)⟩
    · simp [results, Try.f9, go_sem, hc5]
    · obtain ⟨q9, hq9⟩ := hpre
      refine ⟨p0, q9, j, r, ?_, hw, h0, rfl⟩
      rw [← hq9, hpr, List.append_assoc]
      rfl
/-- Find, of an open list -/
theorem find_any (w : World) (F : Nat → Prop) (B : Nat) (bk : List (Option Lst)) (h : Book w F B bk) (i : Nat) (l : Lst) (hl : bk[i]? = some (some l)) (k s rt : Int) (hrt : 0 ≤ rt ∧ rt ≤ 15) :
    Calls Try.prog 9 #[.pointer (some ⟨B, 0, none⟩), .int .i64 (i : Int), .int .i64 k, .int .i64 s, .int .i64 rt] w fun e W' => ∃ v, e = .returned (.int .i64 v) ∧ Fnd (wants k s rt) l v ∧ Below w.heap.size w W' := by
  obtain ⟨T, G, m, fs, h⟩ := h
  exact (callsIn_wide (n := 3)).1 (find_in 3 (Nat.le_refl _) F B T G m fs bk w h i l hl k s rt hrt)
end Go.Proofs.Ytjpnjgbcmodnoaa

namespace Go.Proofs.Ytjpnjgbcmodnoaa
open Go.RowKit Go.Shelf

/-- kinds are 1 to 3, rights 0 to 15 -/
def Kd (bk : List (Option Lst)) : Prop := ∀ (a b : Nat) (r : Rc), atB bk (a : Int) (b : Int) = some r → (1 ≤ r.k ∧ r.k ≤ 3) ∧ Rt r
section
variable {bk bk' : List (Option Lst)}
theorem Kd.sub (h : Kd bk) (hs : Subk bk bk') : Kd bk' := by
  intro a b q hq
  obtain ⟨p, hp, e1, _, _, e4⟩ := hs a b q hq
  have h9 := h a b p hp
  unfold Rt at h9 ⊢
  rw [e1, e4] at h9
  exact h9
theorem Kd.laid (h : Kd bk) {r : Rc} (hr : (1 ≤ r.k ∧ r.k ≤ 3) ∧ Rt r) (hl : Laid bk bk' r) : Kd bk' := by
  obtain ⟨i, k, hf, hv⟩ := hl
  intro a b q hq
  rw [hv] at hq
  split at hq
  · cases hq; exact hr
  · exact h a b q hq
theorem mint_eff {e a k o s r v c : Int} (h48 : ∀ (i : Nat) (l : Lst), bk[i]? = some (some l) → l.length = 48) (hm : MintR bk e a k o s r v c bk') : bk' = bk ∨ (mb k o s r ∧ Laid bk bk' ⟨k, o, s, r, -1, -1⟩) := by
  rcases hm with ⟨_, _, _, rfl⟩ | ⟨_, _, _, _, rfl⟩ | ⟨i, l, l', _, hl, _, hmb, hy, rfl⟩
  · exact .inl rfl
  · exact .inl rfl
  · rcases lay_view hl (h48 i l hl) hy with ⟨j, _, _, _, hf, _, _, _, hv⟩ | ⟨_, _, e, _⟩
    · exact .inr ⟨hmb, i, j, hf, hv⟩
    · exact .inl e
theorem Kd.step (h : Kd bk) {o : Opr} {f : Int → Int → Nat} (hf : Rk bk f) (h48 : ∀ (i : Nat) (l : Lst), bk[i]? = some (some l) → l.length = 48) (hs : Step o bk bk') : Kd bk' := by
  by_cases hq : o.q = 3
  · cases hs using Step.ind with
    | none => exact h
    | opn h0 _ => omega
    | shut0 => exact h
    | shut h0 _ _ _ => omega
    | mint _ hm =>
      rcases mint_eff h48 hm with rfl | ⟨h1, h2⟩
      · exact h
      · exact h.laid ⟨⟨h1.1, h1.2.1⟩, h1.2.2.2.2.2.2.1, h1.2.2.2.2.2.2.2⟩ h2
    | derive h0 _ => omega
    | drop0 => exact h
    | drop h0 _ _ _ _ => omega
    | revoke0 => exact h
    | revoke h0 _ _ _ _ _ _ => omega
    | purge h0 => omega
  · rcases hs.eff hf h48 hq with h1 | ⟨p, h1, _, h3, h4, h5⟩
    · exact h.sub h1
    · obtain ⟨a', b', _, e1, e2, _, _, _⟩ := atB_some h1
      rw [e1, e2] at h1
      refine h.laid ?_ h5
      exact ⟨(h a' b' p h1).1, h3, h4⟩
end
theorem begun_kd {bk : List (Option Lst)} {k o s r : Int} (hk : 1 ≤ k ∧ k ≤ 3) (hr : 0 ≤ r ∧ r ≤ 15) (h : Begun bk k o s r) : Kd bk := by
  intro a b q hq
  rw [h.at0] at hq
  split at hq
  · cases hq; exact ⟨hk, hr⟩
  · cases hq
/-- what is found: it lies in the list, is no later than one that fits, and fits -/
theorem Fnd.hit {P : Rc → Bool} {l : Lst} {v : Int} (h : Fnd P l v) {j : Nat} {r : Rc} (hr : l[j]? = some (some r)) (hP : P r = true) : ∃ (k : Nat) (q : Rc), v = (k : Int) ∧ k ≤ j ∧ l[k]? = some (some q) ∧ P q = true := by
  have hm : (j, r) ∈ prs l 0 := prs_mem.2 hr
  rcases h with ⟨_, h⟩ | ⟨p0, q, k, r', hp, hw, h0, rfl⟩
  · rw [h _ hm] at hP; cases hP
  · have hk : (k, r') ∈ prs l 0 := by rw [hp]; simp
    refine ⟨k, r', rfl, ?_, prs_mem.1 hk, hw⟩
    have hs : (prs l 0).Pairwise (fun a b => a.1 < b.1) := prsL_sorted _ _
    rw [hp] at hs
    rw [hp] at hm
    rcases List.mem_append.1 hm with h9 | h9
    · rw [h0 _ h9] at hP; cases hP
    · rcases List.mem_cons.1 h9 with h8 | h8
      · cases h8; omega
      · have := (List.pairwise_cons.1 (List.pairwise_append.1 hs).2.1).1 _ h8
        simp at this
        omega
/-- List, with its code -/
def lcd (bk : List (Option Lst)) (i : Nat) : Int := if (look bk (i : Int)).isNone then 83 else 0
theorem list_ex (w : World) (F : Nat → Prop) (B : Nat) (bk : List (Option Lst)) (h : Book w F B bk) (i : Nat) :
    Calls Try.prog 7 #[.pointer (some ⟨B, 0, none⟩), .int .i64 (i : Int)] w fun e W' => ∃ v, e = .returned (.tuple #[v, .int .i64 (lcd bk i)]) ∧ W'.ownsRow w.heap.size 38 6 v (prs (lf bk i) 0).length (encHs (i : Int) (prs (lf bk i) 0)) ∧ Below w.heap.size w W' := by
  cases hl : look bk (i : Int) with
  | none =>
    refine (list_none w F B bk h i hl).mono ?_
    rintro e w' ⟨rfl, hb⟩
    have e0 : lf bk i = [] := by unfold lf; rw [hl]; rfl
    have e1 : lcd bk i = 83 := by unfold lcd; rw [hl]; rfl
    exact ⟨_, by rw [e1], by rw [e0]; exact ⟨rfl, .inl ⟨rfl, rfl⟩⟩, hb⟩
  | some l =>
    obtain ⟨j, e, hj⟩ := look_open hl
    obtain rfl : i = j := by omega
    have e0 : lf bk i = l := by unfold lf; rw [hl]; rfl
    have e1 : lcd bk i = 0 := by unfold lcd; rw [hl]; rfl
    rw [e0, e1]
    obtain ⟨T, G, m, fs, h⟩ := h
    refine ((callsIn_wide (n := 3)).1 (list_in 3 (Nat.le_refl _) F B T G m fs bk w h i l hj)).mono ?_
    rintro e w' ⟨v, rfl, h1, h2⟩
    exact ⟨v, rfl, h1, h2⟩
end Go.Proofs.Ytjpnjgbcmodnoaa

namespace Go.Proofs.Ytjpnjgbcmodnoaa
open Go.RowKit Go.Shelf

theorem lf_at {bk : List (Option Lst)} {i k : Nat} {r : Rc} : (k, r) ∈ prs (lf bk i) 0 ↔ atB bk (i : Int) (k : Int) = some r := by
  rw [prs_mem]
  unfold lf atB
  cases look bk (i : Int) with
  | none => simp
  | some l =>
    show l[k]? = some (some r) ↔ look l (k : Int) = some r
    rw [look_nat]
    cases l[k]? with
    | none => simp
    | some x => simp
theorem prs_lt {l : Lst} {i j : Nat} (hij : i < j) (hj : j < (prs l 0).length) : ((prs l 0)[i]'(by omega)).1 < (prs l 0)[j].1 := by
  have hs : (prs l 0).Pairwise (fun a b => a.1 < b.1) := prsL_sorted _ _
  exact List.pairwise_iff_getElem.1 hs i j (by omega) hj hij
/-- how many of a kind -/
def kc (k : Int) (l : List (Nat × Rc)) : Nat := l.countP (fun y => decide (y.2.k = k))
theorem cnt_kc (bk : List (Option Lst)) (i : Nat) (k : Int) : cnt bk (i : Int) k = kc k (prs (lf bk i) 0) := by
  unfold cnt kc lf
  cases look bk (i : Int) with
  | none => rfl
  | some l =>
    show (fit _ (prs l 0)).length = _
    unfold fit
    rw [List.length_map, ← List.countP_eq_length_filter]
    rfl
theorem kc_take {k : Int} {l : List (Nat × Rc)} {n : Nat} (hn : n < l.length) : kc k (l.take (n + 1)) = kc k (l.take n) + if l[n].2.k = k then 1 else 0 := by
  unfold kc
  rw [List.take_add_one, List.getElem?_eq_getElem hn, List.countP_append]
  simp
theorem kc_le {k : Int} {l : List (Nat × Rc)} : kc k l ≤ l.length := List.countP_le_length
/-- the elements of one list -/
def msl (bk : List (Option Lst)) (i : Nat) : List (Int × (Nat × Rc)) := (prs (lf bk i) 0).map (fun x => ((i : Int), x))
theorem msl_len (bk : List (Option Lst)) (i : Nat) : (msl bk i).length = (prs (lf bk i) 0).length := List.length_map _
theorem msl_at {bk : List (Option Lst)} {i n : Nat} (hn : n < (msl bk i).length) : (msl bk i)[n] = ((i : Int), (prs (lf bk i) 0)[n]'(by rw [← msl_len]; exact hn)) := List.getElem_map _
theorem msl_enc (bk : List (Option Lst)) (i : Nat) : encA (msl bk i) = encHs (i : Int) (prs (lf bk i) 0) := by
  have := encA_add [] (i : Int) (prs (lf bk i) 0)
  simpa [encA, msl] using this
theorem msl_find {bk : List (Option Lst)} {i k : Nat} {q : Rc} (h : (k, q) ∈ prs (lf bk i) 0) : (msl bk i).find? (fnd (i : Int) (k : Int)) = some ((i : Int), (k, q)) := by
  have hm : ((i : Int), (k, q)) ∈ msl bk i := List.mem_map.2 ⟨_, h, rfl⟩
  cases hf : (msl bk i).find? (fnd (i : Int) (k : Int)) with
  | none =>
    have := List.find?_eq_none.1 hf _ hm
    simp [fnd] at this
  | some y =>
    have hy := List.find?_some hf
    obtain ⟨x, hx, rfl⟩ := List.mem_map.1 (List.mem_of_find?_eq_some hf)
    simp only [fnd, Bool.and_eq_true, decide_eq_true_eq] at hy
    obtain ⟨x1, x2⟩ := x
    simp only at hy
    obtain rfl : x1 = k := by have := hy.2; omega
    have h1 := prs_mem.1 h
    have h2 := prs_mem.1 hx
    rw [h1] at h2
    cases h2
    rfl
theorem rights16 : ∀ x p : Fin 16, (bits .andNot .i64 (x.val : Int) (p.val : Int) == 0) = true → bits .and .i64 (p.val : Int) (x.val : Int) = (x.val : Int) := by decide
theorem wants_rights {q r : Rc} (hq : Rt q) (hr : Rt r) (h : (bits .andNot .i64 r.r q.r == 0) = true) : bits .and .i64 q.r r.r = r.r := by
  have h1 := rights16 ⟨r.r.toNat, by have := hr.1; have := hr.2; omega⟩ ⟨q.r.toNat, by have := hq.1; have := hq.2; omega⟩
  have e1 : ((r.r.toNat : Nat) : Int) = r.r := by have := hr.1; omega
  have e2 : ((q.r.toNat : Nat) : Int) = q.r := by have := hq.1; omega
  simp only [e1, e2] at h1
  exact h1 h
theorem andNot16 : ∀ x : Fin 16, (bits .andNot .i64 (x.val : Int) (x.val : Int) == 0) = true := by decide
theorem wants_self {r : Rc} (hr : Rt r) : wants r.k r.s r.r r = true := by
  have h1 := andNot16 ⟨r.r.toNat, by have := hr.1; have := hr.2; omega⟩
  have e1 : ((r.r.toNat : Nat) : Int) = r.r := by have := hr.1; omega
  simp only [e1] at h1
  unfold wants
  rw [h1]
  simp
theorem sum_idx (g : Nat → Nat) : ∀ (l : List (Option Lst)) (s : Nat), (∀ i, l[i]? = some none → g (s + i) = 0) → (((prsL s l).map Prod.fst).map g).sum = ((List.range' s l.length).map g).sum
  | [], _, _ => rfl
  | a :: t, s, h => by
    have ih := sum_idx g t (s + 1) (fun i hi => by have := h (i + 1) (by simpa using hi); rw [show s + 1 + i = s + (i + 1) by omega]; exact this)
    cases a with
    | none =>
      have h0 := h 0 rfl
      simp only [prsL, List.length_cons, List.range'_succ, List.map_cons, List.sum_cons] at ih ⊢
      rw [ih]
      simp at h0
      omega
    | some x =>
      simp only [prsL, List.length_cons, List.range'_succ, List.map_cons, List.sum_cons] at ih ⊢
      rw [ih]
theorem pls_hl {bk : List (Option Lst)} (h16 : bk.length = 16) (P : Rc → Bool) : (pls P bk).length = (hl bk 16).countP (fun y => P y.2.2) := by
  have e1 : ∀ i, (one P bk i).length = ((prs (lf bk i) 0).map (fun x => ((i : Int), x))).countP (fun y => P y.2.2) := by
    intro i
    unfold one fit
    rw [List.length_map, List.length_map, List.countP_map, List.countP_eq_length_filter]
    rfl
  unfold pls plsI hl
  rw [List.length_flatMap, List.countP_flatMap]
  have h1 := sum_idx (fun i => (one P bk i).length) bk 0 (fun i hi => by
    rw [Nat.zero_add, e1]
    unfold lf
    rw [look_nat, hi]
    rfl)
  unfold idx prs
  rw [List.drop_zero, h1, h16, ← List.range_eq_range']
  congr 1
  refine List.map_congr_left fun i _ => ?_
  rw [e1]; rfl
section
variable {P : Program} {ops : Array Oper} {Q : Exit → Act → World → Prop} {S : World → Prop} {fuel : Nat} {listed : Array Bool} {a : Act} {w : World}
/-- what its guard leaves out -/
theorem hd_skip (i : Nat) {o : Oper} (hs : Region.noSelect ops = true) (hf : Region.free .any ops listed i = true) (hr : (Region.ready .any ops listed).contains i = true) (ho : ops[i]? = some o) (hw : Region.wanted o (yielded ops a.tmps) = false)
    (hQ : ∀ c a w, Q (.panic c) (a.put o.dst undef) w → Q (.panic c) a w) (h0 : S w) (h : wpAnyH P .any ops Q S fuel (listed.setIfInBounds i true) (a.put o.dst undef) w) : wpAnyH P .any ops Q S (fuel + 1) listed a w :=
  wpAnyH_take ho hs hf hr hQ (Or.inr ⟨hw, rfl⟩) h0 h
end
/-- four numbers, in a block of the law's own -/
def Ar (w : World) (N : Nat) (cs : Nat → Int) : Prop := ∃ A : Array Value, w.heap[N]? = some (.cells A 36 (0, 0)) ∧ A.size = 4 ∧ ∀ j, j < 4 → A[j]? = some (.int .i64 (cs j))
section
variable {w w' : World} {N : Nat} {cs : Nat → Int}
theorem Ar.lt (h : Ar w N cs) : N < w.heap.size := by obtain ⟨A, h1, _⟩ := h; exact (Array.getElem?_eq_some_iff.1 h1).1
theorem Ar.cell (h : Ar w N cs) {j : Nat} (hj : j < 4) : w.cell? ⟨N, j, none⟩ = some (.int .i64 (cs j)) := by
  obtain ⟨A, h1, h2, h3⟩ := h
  rw [cell_of_row _ _ _ _ _ _ h1]; exact h3 j hj
theorem Ar.frozen (h : Ar w N cs) (j : Nat) : w.frozen? ⟨N, j, none⟩ = false := by
  obtain ⟨A, h1, h2, h3⟩ := h
  exact frozen_of_row _ _ _ _ _ h1
theorem Ar.below (h : Ar w N cs) {n : Nat} (hn : N < n) (hb : Below n w w') : Ar w' N cs := by
  obtain ⟨A, h1, h2⟩ := h
  exact ⟨A, (hb.block N hn).trans h1, h2⟩
theorem Ar.set (h : Ar w N cs) {j : Nat} (hj : j < 4) (v : Int) {cs' : Nat → Int} (he : ∀ i, i < 4 → cs' i = if i = j then v else cs i) : Ar (w.setCell ⟨N, j, none⟩ (.int .i64 v)) N cs' := by
  obtain ⟨A, h1, h2, h3⟩ := h
  refine ⟨_, heap_setCell_same _ N j _ _ _ h1, by rw [Array.size_setIfInBounds]; exact h2, fun i hi => ?_⟩
  rw [he i hi]
  by_cases e : i = j
  · subst e
    rw [if_pos rfl, Array.getElem?_setIfInBounds_self_of_lt (by omega)]
  · rw [if_neg e, Array.getElem?_setIfInBounds_ne (fun h => e h.symm)]; exact h3 i hi
theorem Ar.new (w : World) : Ar (w.alloc (.cells #[.int .i64 0, .int .i64 0, .int .i64 0, .int .i64 0] 36)) w.heap.size (fun _ => 0) := by
  refine ⟨_, heap_alloc_new _ _, rfl, fun j hj => ?_⟩
  match j, hj with
  | 0, _ => rfl
  | 1, _ => rfl
  | 2, _ => rfl
  | 3, _ => rfl
  | j + 4, h => omega
end
end Go.Proofs.Ytjpnjgbcmodnoaa
