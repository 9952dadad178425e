import Derived.RangeFuncNested
import Derived.RangeFuncBound
import Derived.RangeFuncCalls
import Derived.RangeFuncLeaves
import Derived.RangeFuncBox
import Derived.Shelf.Abstract
import Derived.Shelf.RegionOpen
import Derived.OwnWalkIn
import Derived.TacticsInMore
import Derived.LoopNIn
import Derived.LoopIn
import Derived.Maps.OwnIn
import Derived.BigQuiet
import Derived.Deep.RegionHeld
import Derived.Deep.Cut
import Derived.Deep.DeepCutAuto
import Derived.WalkSmall
import Derived.Sort.Grow
import Derived.Shelf.SlSortCmp.NoneTotal
import Derived.Shelf.SlGeneric
import Derived.Ground.SlsfProg
import Derived.Sort.QuietTacIn
import Derived.RegionIn
import Derived.Test.YtoddadohmnaolabMC
namespace Go.Proofs.Ytoddadohmnaolab
open Go.RowKit Go.Shelf
attribute [local go_sem] Oper.semAt_some

/-- the taken places from s on, rising, with their values -/
def prsL {α : Type} (s : Nat) : List (Option α) → List (Nat × α)
  | [] => []
  | none :: t => prsL (s + 1) t
  | some x :: t => (s, x) :: prsL (s + 1) t
def prs {α : Type} (m : List (Option α)) (s : Nat) : List (Nat × α) := prsL s (m.drop s)
theorem prs_none {α : Type} {m : List (Option α)} {s : Nat} (h : look m (s : Int) = none) : prs m s = prs m (s + 1) := by
  unfold prs
  rcases Nat.lt_or_ge s m.length with hs | hs
  · rw [List.drop_eq_getElem_cons hs]
    rw [look_nat, List.getElem?_eq_getElem hs] at h
    cases hm : m[s] with
    | none => rfl
    | some x => rw [hm] at h; cases h
  · rw [List.drop_eq_nil_of_le hs, List.drop_eq_nil_of_le (by omega)]; rfl
theorem prs_some {α : Type} {m : List (Option α)} {s : Nat} {x : α} (h : m[s]? = some (some x)) : prs m s = (s, x) :: prs m (s + 1) := by
  unfold prs
  obtain ⟨hs, e⟩ := List.getElem?_eq_some_iff.1 h
  rw [List.drop_eq_getElem_cons hs, e]; rfl
theorem prs_skip {α : Type} {m : List (Option α)} {s : Nat} : ∀ (d : Nat), (∀ j : Nat, s ≤ j → j < s + d → look m (j : Int) = none) → prs m s = prs m (s + d)
  | 0, _ => rfl
  | d + 1, h => by
    rw [prs_skip d (fun j h1 h2 => h j h1 (by omega))]
    exact prs_none (h (s + d) (by omega) (by omega))
theorem prs_next {α : Type} {m : List (Option α)} {s k : Nat} {x : α} (h : IsNext m s k) (hx : m[k]? = some (some x)) : prs m s = (k, x) :: prs m (k + 1) := by
  have e := prs_skip (m := m) (s := s) (k - s) (fun j h1 h2 => h.2.2 j h1 (by omega))
  rw [e, show s + (k - s) = k by have := h.1; omega, prs_some hx]
theorem prs_end {α : Type} {m : List (Option α)} {s : Nat} (h : NoNext m s) : prs m s = [] := by
  have e := prs_skip (m := m) (s := s) m.length (fun j h1 _ => h j h1)
  rw [e]; unfold prs
  rw [List.drop_eq_nil_of_le (by omega)]; rfl
theorem prsL_mem {α : Type} : ∀ (l : List (Option α)) (s k : Nat) (x : α), (k, x) ∈ prsL s l ↔ s ≤ k ∧ l[k - s]? = some (some x)
  | [], s, k, x => by simp [prsL]
  | none :: t, s, k, x => by
    rw [prsL, prsL_mem t (s + 1) k x]
    constructor
    · rintro ⟨h1, h2⟩
      refine ⟨by omega, ?_⟩
      rw [show k - s = (k - (s + 1)) + 1 by omega]; exact h2
    · rintro ⟨h1, h2⟩
      rcases Nat.eq_or_lt_of_le h1 with rfl | h3
      · simp at h2
      · refine ⟨by omega, ?_⟩
        rw [show k - s = (k - (s + 1)) + 1 by omega] at h2; exact h2
  | some y :: t, s, k, x => by
    rw [prsL, List.mem_cons, prsL_mem t (s + 1) k x]
    constructor
    · rintro (h | ⟨h1, h2⟩)
      · cases h; simp
      · refine ⟨by omega, ?_⟩
        rw [show k - s = (k - (s + 1)) + 1 by omega]; exact h2
    · rintro ⟨h1, h2⟩
      rcases Nat.eq_or_lt_of_le h1 with rfl | h3
      · simp at h2; subst h2; exact .inl rfl
      · refine .inr ⟨by omega, ?_⟩
        rw [show k - s = (k - (s + 1)) + 1 by omega] at h2; exact h2
theorem prs_mem {α : Type} {m : List (Option α)} {k : Nat} {x : α} : (k, x) ∈ prs m 0 ↔ m[k]? = some (some x) := by
  unfold prs; rw [prsL_mem]; simp
theorem prsL_sorted {α : Type} : ∀ (l : List (Option α)) (s : Nat), (prsL s l).Pairwise (fun a b => a.1 < b.1)
  | [], _ => .nil
  | none :: t, s => prsL_sorted t (s + 1)
  | some y :: t, s => .cons (fun q hq => by
      have := (prsL_mem t (s + 1) q.1 q.2).1 hq
      show s < q.1
      omega) (prsL_sorted t (s + 1))
theorem prsL_len {α : Type} : ∀ (l : List (Option α)) (s : Nat), (prsL s l).length = l.countP Option.isSome
  | [], _ => rfl
  | none :: t, s => by rw [prsL, prsL_len t (s + 1)]; simp
  | some y :: t, s => by rw [prsL, List.length_cons, prsL_len t (s + 1)]; simp
theorem prs_len {α : Type} (m : List (Option α)) : (prs m 0).length = m.countP Option.isSome := by unfold prs; rw [prsL_len]; simp

/-- what a round that goes on keeps: these blocks -/
def KeepF (G : Nat → Prop) (W W' : World) : Prop := W.heap.size ≤ W'.heap.size ∧ ∀ b, G b → W'.heap[b]? = W.heap[b]?
theorem keepF_t {G : Nat → Prop} {A B C : World} (h : KeepF G A B) (k : KeepF G B C) : KeepF G A C := ⟨Nat.le_trans h.1 k.1, fun b hb => (k.2 b hb).trans (h.2 b hb)⟩
theorem keepF_b {G : Nat → Prop} {w : World} (hG : ∀ b, G b → b < w.heap.size) (W : World) (l : Nat) (o o' : Obj) (hl : w.heap.size ≤ l) (_ : W.heap[l]? = some o) (_ : o.isCells = false) (_ : o.isWalk = false) : KeepF G W (W.putObj l o') :=
  ⟨by simp, fun b hb => World.putObj_heap_other (fun e => by have := hG b hb; omega)⟩

/-- where a range by Next stands -/
def AtN {α : Type} (m : List (Option α)) (s : Nat) (q : Int) : Prop := (∃ k : Nat, q = k ∧ IsNext m s k) ∨ (q = -1 ∧ NoNext m s)
/-- the measure of a range by Next -/
def meas (b : Nat) (i : Value) : Nat := if intOf i < 0 then 0 else b + 1 - (intOf i).toNat
theorem meas_next {k q : Nat} {i : Int} (hq : q < k) (h : (∃ q' : Nat, i = q' ∧ q + 1 ≤ q') ∨ i = -1) : meas k (.int .i64 i) < meas k (.int .i64 (q : Int)) := by
  have e : ∀ x : Int, meas k (.int .i64 x) = if x < 0 then 0 else k + 1 - x.toNat := fun _ => rfl
  rw [e, e]
  rcases h with ⟨q', rfl, h2⟩ | rfl
  · rw [if_neg (by omega), if_neg (by omega)]; omega
  · rw [if_pos (by omega), if_neg (by omega)]; omega

theorem look_prs {α : Type} {m : List (Option α)} {k : Nat} {x : α} : look m (k : Int) = some x ↔ (k, x) ∈ prs m 0 := by
  rw [prs_mem, look_nat]
  cases hm : m[k]? with
  | none => simp
  | some o => cases o <;> simp
end Go.Proofs.Ytoddadohmnaolab

namespace Go.Proofs.Ytoddadohmnaolab
open Go.RowKit Go.Shelf
attribute [local go_sem] Oper.semAt_some

set_option maxHeartbeats 400000 in
theorem allL_in (B : Nat) (n : Nat) (w : World) :
    CallsIn Fence.wide n Try.prog 44 #[.pointer (some ⟨B, 0, none⟩)] w fun e w' => e = .returned (.func (.func 64) #[] #[.pointer (some ⟨w.heap.size, 0, none⟩)]) ∧ w' = w.alloc (.cells #[.pointer (some ⟨B, 0, none⟩)] 73) := by
  refine callsIn_of_wp Try.func44 rfl trivial ?_ rfl
  simp only [Try.ntmps44, List.size_toArray, List.length_cons, List.length_nil, Nat.reduceAdd, Nat.reduceSub, Array.replicate_succ, Array.replicate_zero, List.push_toArray, List.append_toArray, List.nil_append, List.cons_append]
  gi_wp2
  go_ret
  exact ⟨rfl, rfl⟩
theorem nextL_at (w : World) (F : Nat → Prop) (B : Nat) (m : List (Option Nat)) (h : Tab KL w F B m) (i : Int) :
    Calls Try.prog 65 #[.pointer (some ⟨B, 0, none⟩), .int .i64 i] w fun x w' => ∃ q : Int, x = .returned (.int .i64 q) ∧ AtN m i.toNat q ∧ w' = w := by
  refine (nextL_any w F B m h i).mono ?_
  rintro x w' ⟨rfl, ⟨k, rfl, h⟩ | ⟨rfl, h⟩⟩
  · exact ⟨k, rfl, .inl ⟨k, rfl, h⟩, rfl⟩
  · exact ⟨-1, rfl, .inr ⟨rfl, h⟩, rfl⟩
set_option maxRecDepth 8000 in
set_option maxHeartbeats 1600000 in
theorem all1L_in (n : Nat) (hn : 1 ≤ n) (l Bn B : Nat) (F : Nat → Prop) (m : List (Option Nat)) (J Jx : List (Nat × Nat) → World → Prop)
    (hY : ∀ pre x W, J pre W → pre.length < (prs m 0).length → m[x.1]? = some (some x.2) → YieldAt Fence.wide (n - 1) Try.prog l #[.int .i64 (x.1 : Nat), .pointer (some ⟨x.2, 0, none⟩)] W fun e W' =>
      (e = .returned (.bool true) ∧ J (pre ++ [x]) W' ∧ KeepF (fun b => F b ∨ b = Bn) W W') ∨ (e = .returned (.bool false) ∧ Jx (pre ++ [x]) W'))
    (W : World) (hBn : W.heap[Bn]? = some (.cells #[.pointer (some ⟨B, 0, none⟩)] 73 (0, 0))) (hT : Tab KL W F B m) (h0 : J [] W) :
    CallsIn Fence.wide n Try.prog 64 #[.func (.yield l) #[] #[], .pointer (some ⟨Bn, 0, none⟩)] W fun e W' => (∃ v, e = .returned v) ∧
      ((∃ ys, ys = prs m 0 ∧ J ys W') ∨ (∃ pre, pre <+: prs m 0 ∧ Jx pre W')) := by
  have hcap := hT.cap
  have HY := hide hY
  have HT := hide hT
  have HB := hide hBn
  have H0 := hide h0
  have c0 := cell_of_row _ _ 0 _ _ _ hBn
  simp only [List.getElem?_toArray, List.getElem?_cons_zero] at c0
  clear hY hT hBn h0
  refine callsIn_of_wp Try.func64 rfl trivial ?_ rfl
  simp only [Try.ntmps64, List.size_toArray, List.length_cons, List.length_nil, Nat.reduceAdd, Nat.reduceSub, Array.replicate_succ, Array.replicate_zero, List.push_toArray, List.append_toArray, List.nil_append, List.cons_append]
  gi_wp2_with fail
  refine ⟨trivial, (callsIn_wide.2 (nextL_at _ F B m HT.out 0)).mono ?_⟩
  rintro e w1 ⟨q0, rfl, hq0, rfl⟩
  have HQ0 := hide hq0
  clear hq0
  gi_wp2
  gi_loopw [3] (fun p wr => ∃ (pre : List (Nat × Nat)) (s : Nat) (q : Int), p = .int .i64 q ∧ Hid (prs m 0 = pre ++ prs m s) ∧ Hid (AtN m s q) ∧ Hid (J pre wr) ∧ Hid (Tab KL wr F B m) ∧ Hid (wr.heap[Bn]? = some (.cells #[.pointer (some ⟨B, 0, none⟩)] 73 (0, 0)))) (fun p _ => meas m.length p)
  case atStart => exact ⟨[], 0, q0, rfl, rfl, HQ0, H0, HT, HB⟩
  case round =>
    obtain ⟨pre, s, q, rfl, HE, HA, HJ, HT1, HB1⟩ := hrel
    have c0 := cell_of_row _ _ 0 _ _ _ HB1.out
    simp only [List.getElem?_toArray, List.getElem?_cons_zero] at c0
    clear HT HB HQ0 H0
    rcases HA.out with ⟨k, rfl, hn1⟩ | ⟨rfl, hn1⟩
    · obtain ⟨x, hx⟩ := hn1.2.1
      have hkm : k < m.length := (List.getElem?_eq_some_iff.1 hx).1
      have hpe := prs_next hn1 hx
      have HE2 := hide (show prs m 0 = (pre ++ [(k, x)]) ++ prs m (k + 1) by
        have := HE.out
        rw [hpe] at this
        simpa using this)
      obtain ⟨fn, tmps, assign, body, hy, hR⟩ := HY.out pre (k, x) wr HJ.out (by rw [HE2.out]; simp) hx
      dsimp only at hy
      have HR := hide hR
      obtain ⟨p, ps, hTA⟩ := HT1.out
      have d0 := hTA.cells.1
      obtain ⟨b, hb1, d1, hb3, hb4⟩ := hTA.ptr hx
      have d2 := cell_of_row _ b 0 _ _ _ hb3
      simp [KL] at d2
      have HN := hide hn1
      clear hR hTA hb1 hb3 hb4 hpe hx HA hn1
      generalize hml : m.length = nn at *
      have HML := hide hml
      clear hml
      gi_wp2_with fail
      refine HR.out.mono ?_
      clear HR hy d0 d1 d2 c0
      rintro e W3 (⟨rfl, hJ3, hk3⟩ | ⟨rfl, hJx3⟩)
      · have HT3 := hide (HT1.out.keep hk3.1 (fun b hb => hk3.2 b (.inl hb)))
        have HB3 := hide ((hk3.2 Bn (.inr rfl)).trans HB1.out)
        have c0 := cell_of_row _ _ 0 _ _ _ HB3.out
        simp only [List.getElem?_toArray, List.getElem?_cons_zero] at c0
        have HJ3 := hide hJ3
        clear hJ3 hk3 HT1 HB1 HJ
        gi_wp2_with fail
        refine ⟨trivial, (callsIn_wide.2 (nextL_at _ F B m HT3.out ((k : Int) + 1))).mono ?_⟩
        rintro e w4 ⟨q4, rfl, hq4, rfl⟩
        have HQ4 : Hid (AtN m (k + 1) q4) := hq4
        clear hq4
        gi_wp2
        go_roundw
        case rel =>
          first
            | exact ⟨_, k + 1, q4, rfl, HE2, HQ4, HJ3, HT3, HB3⟩
            | ((repeat apply Exists.intro); refine ⟨?_, rfl⟩; exact ⟨_, k + 1, q4, rfl, HE2, HQ4, HJ3, HT3, HB3⟩)
        case measure =>
          exact meas_next hkm (HQ4.out.imp (fun ⟨q', h1, h2⟩ => ⟨q', h1, h2.1⟩) (fun h => h.1))
      · have HX := hide hJx3
        clear hJx3
        gi_wp2
        refine bodyPost_ret (results_none rfl _ _ _) rfl ?_
        exact ⟨⟨_, rfl⟩, .inr ⟨_, ⟨_, HE2.out.symm⟩, HX.out⟩⟩
    · have HP := hide (prs_end hn1)
      clear HA hn1
      gi_wp2
      go_end0
      exact ⟨⟨_, rfl⟩, .inl ⟨pre, by rw [HE.out, HP.out]; simp, HJ.out⟩⟩
/-- the same, each place told to be one -/
theorem allL_stops (n : Nat) (hn : 1 ≤ n) (Bn B : Nat) (F : Nat → Prop) (m : List (Option Nat)) (w : World) (hBn : w.heap[Bn]? = some (.cells #[.pointer (some ⟨B, 0, none⟩)] 73 (0, 0))) (hT : Tab KL w F B m) :
    SeqStopsK Fence.wide n Try.prog 64 #[.pointer (some ⟨Bn, 0, none⟩)] (fun x : { x : Nat × Nat // m[x.1]? = some (some x.2) } => #[Value.int .i64 (x.1.1 : Nat), .pointer (some ⟨x.1.2, 0, none⟩)]) (KeepF (fun b => F b ∨ b = Bn)) (fun ys => ys.map Subtype.val = prs m 0) (fun pre => pre.map Subtype.val <+: prs m 0) (prs m 0).length w := fun l J Jx W hW _ _ hY h0 => by
  refine (all1L_in n hn l Bn B F m (fun ys W => ∃ zs : List { x : Nat × Nat // m[x.1]? = some (some x.2) }, zs.map Subtype.val = ys ∧ J zs W) (fun ys W => ∃ zs : List { x : Nat × Nat // m[x.1]? = some (some x.2) }, zs.map Subtype.val = ys ∧ Jx zs W) ?_ W ((hW.block Bn (Array.getElem?_eq_some_iff.1 hBn).1).trans hBn) (hT.below hW) ⟨[], rfl, h0⟩).mono ?_
  · rintro pre x W1 ⟨zs, rfl, hJ⟩ hl hx
    obtain ⟨fn, tmps, assign, body, hy, hR⟩ := hY zs ⟨x, hx⟩ W1 hJ (by simpa using hl)
    refine ⟨fn, tmps, assign, body, hy, hR.mono ?_⟩
    rintro e W' (⟨h1, h2, h3⟩ | ⟨h1, h2⟩)
    · exact .inl ⟨h1, ⟨_, by simp, h2⟩, h3⟩
    · exact .inr ⟨h1, _, by simp, h2⟩
  · rintro e W' ⟨hv, ⟨ys, rfl, zs, hz, hJ⟩ | ⟨pre, hp, zs, rfl, hJ⟩⟩
    · exact ⟨hv, .inl ⟨zs, hz, hJ⟩⟩
    · exact ⟨hv, .inr ⟨zs, hp, hJ⟩⟩
end Go.Proofs.Ytoddadohmnaolab

namespace Go.Proofs.Ytoddadohmnaolab
open Go.RowKit Go.Shelf Go.Sort

/-- how two numbers lie -/
def ci (x y : Int) : Int := if x < y then -1 else if y < x then 1 else 0
theorem nan_any (w : World) (x : Int) : Calls Try.prog 79 #[.int .i64 x] w fun e w' => e = .returned (.bool false) ∧ w' = w := by
  go_enter Try.func79, Try.ntmps79
  go_wp2
  go_ret
  exact ⟨by simp, rfl⟩
theorem compare_any (w : World) (x y : Int) : Calls Try.prog 68 #[.int .i64 x, .int .i64 y] w fun e w' => e = .returned (.int .i64 (ci x y)) ∧ w' = w := by
  have HN := hide (fun w x => nan_any w x)
  unfold ci
  by_cases h1 : x < y
  · rw [if_pos h1]
    go_enter Try.func68, Try.ntmps68
    go_wp2_with (go_at_call 79; refine (HN.out _ _).mono ?_; rintro e w1 ⟨rfl, rfl⟩)
    go_ret
    exact ⟨rfl, rfl⟩
  · rw [if_neg h1]
    by_cases h2 : y < x
    · rw [if_pos h2]
      go_enter Try.func68, Try.ntmps68
      go_wp2_with (go_at_call 79; refine (HN.out _ _).mono ?_; rintro e w1 ⟨rfl, rfl⟩)
      go_ret
      exact ⟨rfl, rfl⟩
    · rw [if_neg h2]
      go_enter Try.func68, Try.ntmps68
      go_wp2_with (go_at_call 79; refine (HN.out _ _).mono ?_; rintro e w1 ⟨rfl, rfl⟩)
      go_ret
      exact ⟨rfl, rfl⟩
section
variable (w : World) (F : Nat → Prop) (T : Nat) (rs : List (Option Er)) (last : Int)
set_option maxHeartbeats 800000 in
theorem serial_any (h : Et w F T rs last) (k : Nat) (r : Er) (hr : rs[k]? = some (some r)) : Calls Try.prog 69 #[.pointer (some ⟨T, 0, none⟩), .int .i64 (k : Int)] w fun x w' => x = .returned (.int .i64 r.se) ∧ w' = w := by
  obtain ⟨S, G, m, h⟩ := h
  have c0 := h.cell.1
  have HG := hide (getL_any _ G S m h.tab (k : Int))
  rcases h.cases (k : Int) with ⟨_, h1⟩ | ⟨k', b, r', e1, hm, h3, h4, _, hR⟩
  · rw [look_nat, hr] at h1; cases h1
  · obtain rfl : k = k' := by omega
    rw [hr] at h3; cases h3
    rw [h4] at HG
    simp only [ptr, Option.isSome_some] at HG
    have c5 := hR.get (j := 0) rfl
    clear h h4 hR
    go_enter Try.func69, Try.ntmps69
    go_wp2_with fail
    refine HG.out.mono ?_
    rintro e1 w1 ⟨rfl, rfl⟩
    go_wp2
    go_ret
    exact ⟨rfl, rfl⟩
/-- the serial of a number -/
def ser (rs : List (Option Er)) (k : Nat) : Int := match rs[k]? with | some (some r) => r.se | _ => 0
theorem ser_at {rs : List (Option Er)} {k : Nat} {r : Er} (h : rs[k]? = some (some r)) : ser rs k = r.se := by unfold ser; rw [h]
def Lv (rs : List (Option Er)) (k : Nat) : Prop := ∃ r, rs[k]? = some (some r)
theorem serial_ser (h : Et w F T rs last) (k : Nat) (hk : Lv rs k) : Calls Try.prog 69 #[.pointer (some ⟨T, 0, none⟩), .int .i64 (k : Int)] w fun x w' => x = .returned (.int .i64 (ser rs k)) ∧ w' = w := by
  obtain ⟨r, hr⟩ := hk
  rw [ser_at hr]
  exact serial_any w F T rs last h k r hr
set_option maxRecDepth 100000 in
set_option maxHeartbeats 1600000 in
/-- the comparer of 'children' -/
theorem cmpK_any (h : Et w F T rs last) (tb : Nat) (hc : w.cell? ⟨tb, 0, none⟩ = some (.pointer (some ⟨T, 0, none⟩))) (x y : Nat) (hx : Lv rs x) (hy : Lv rs y) : Calls Try.prog 67 #[.int .i64 (x : Int), .int .i64 (y : Int), .pointer (some ⟨tb, 0, none⟩)] w fun e w' => e = .returned (.int .i64 (ci (ser rs x) (ser rs y))) ∧ ∃ q, w' = w.drewN q := by
  have HX : Hid (∀ n k, Lv rs k → Calls Try.prog 69 #[.pointer (some ⟨T, 0, none⟩), .int .i64 (k : Int)] (w.drewN n) fun e w' => e = .returned (.int .i64 (ser rs k)) ∧ w' = w.drewN n) := hide (fun n k hk => serial_ser _ F T rs last (h.keep (w' := w.drewN n) (Nat.le_refl _) (fun _ _ => rfl)) k hk)
  have HC : Hid (∀ n a b, Calls Try.prog 68 #[.int .i64 a, .int .i64 b] (w.drewN n) fun e w' => e = .returned (.int .i64 (ci a b)) ∧ w' = w.drewN n) := hide (fun n a b => compare_any _ a b)
  clear h
  go_enter Try.func67, Try.ntmps67
  go_upto_region 1 with fail
  go_quiet (first | (go_at_call 69; exact Calls.quiet_of_same (HX.out _ _ (by first | exact hx | exact hy))) | (go_at_call 68; exact Calls.quiet_of_same (HC.out _ _ _)))
  go_wp2
  go_ret
  exact ⟨rfl, _, rfl⟩
end
end Go.Proofs.Ytoddadohmnaolab

namespace Go.Proofs.Ytoddadohmnaolab
open Go.RowKit Go.Shelf Go.Sort Go.Proofs Go.Lib

def Try.sortI_ren : Go.Shelf.Ren := ⟨fun | 6 => 66 | 15 => 78 | 14 => 77 | 28 => 88 | 29 => 89 | 20 => 80 | 21 => 81 | 22 => 82 | 23 => 83 | 24 => 84 | 25 => 85 | 26 => 86 | 27 => 87 | 46 => 90 | 47 => 91 | 48 => 92 | 49 => 93 | 50 => 94 | 57 => 95 | n => n, fun | 22 => 49 | 24 => 3 | 25 => 108 | 3 => 3 | 39 => 115 | 0 => 0 | 53 => 33 | 55 => 126 | 4 => 4 | 46 => 118 | 45 => 117 | 50 => 122 | 5 => 5 | 9 => 9 | 66 => 127 | 70 => 131 | 76 => 133 | 77 => 134 | n => n, fun | n => n⟩
theorem Try.sortI : Go.Proofs.SlLaysF.n6 Try.prog Try.sortI_ren := {
  mixed := by kernel_rfl
  f6 := ⟨Try.f66.name, by decide, Try.func66.trans (congrArg some (by kernel_rfl))⟩
  f14 := ⟨Try.f77.name, by decide, Try.func77.trans (congrArg some (by kernel_rfl))⟩
  f15 := Try.func78.trans (congrArg some (by kernel_rfl))
  f20 := ⟨Try.f80.name, by decide, Try.func80.trans (congrArg some (by kernel_rfl))⟩
  f21 := ⟨Try.f81.name, by decide, Try.func81.trans (congrArg some (by kernel_rfl))⟩
  f22 := ⟨Try.f82.name, by decide, Try.func82.trans (congrArg some (by kernel_rfl))⟩
  f23 := ⟨Try.f83.name, by decide, Try.func83.trans (congrArg some (by kernel_rfl))⟩
  f24 := ⟨Try.f84.name, by decide, Try.func84.trans (congrArg some (by kernel_rfl))⟩
  f25 := ⟨Try.f85.name, by decide, Try.func85.trans (congrArg some (by kernel_rfl))⟩
  f26 := ⟨Try.f86.name, by decide, Try.func86.trans (congrArg some (by kernel_rfl))⟩
  f27 := ⟨Try.f87.name, by decide, Try.func87.trans (congrArg some (by kernel_rfl))⟩
  f28 := Try.func88.trans (congrArg some (by kernel_rfl))
  f29 := Try.func89.trans (congrArg some (by kernel_rfl))
  f46 := ⟨Try.f90.name, by decide, Try.func90.trans (congrArg some (by kernel_rfl))⟩
  f47 := Try.func91.trans (congrArg some (by kernel_rfl))
  f48 := Try.func92.trans (congrArg some (by kernel_rfl))
  f49 := ⟨Try.f93.name, by decide, Try.func93.trans (congrArg some (by kernel_rfl))⟩
  f50 := ⟨Try.f94.name, by decide, Try.func94.trans (congrArg some (by kernel_rfl))⟩
  f57 := ⟨Try.f95.name, by decide, Try.func95.trans (congrArg some (by kernel_rfl))⟩
  t0 := Try.underlying0
  a0 := Try.isAgg0
  z0 := Try.sizeOf0
  v0 := Try.zeroValue0
  t3 := Try.underlying3
  a3 := Try.isAgg3
  z3 := Try.sizeOf3
  v3 := Try.zeroValue3
  t4 := Try.underlying4
  a4 := Try.isAgg4
  z4 := Try.sizeOf4
  v4 := Try.zeroValue4
  t5 := Try.underlying5
  a5 := Try.isAgg5
  z5 := Try.sizeOf5
  v5 := Try.zeroValue5
  t9 := Try.underlying9
  a9 := Try.isAgg9
  z9 := Try.sizeOf9
  v9 := Try.zeroValue9
  t22 := Try.underlying49
  a22 := Try.isAgg49
  z22 := Try.sizeOf49
  v22 := Try.zeroValue49
  a24 := Try.isAgg3
  z24 := Try.sizeOf3
  t25 := Try.underlying108
  a25 := Try.isAgg108
  z25 := Try.sizeOf108
  v25 := Try.zeroValue108
  t39 := Try.underlying115
  a39 := Try.isAgg115
  z39 := Try.sizeOf115
  v39 := Try.zeroValue115
  t45 := Try.underlying117
  a45 := Try.isAgg117
  z45 := Try.sizeOf117
  v45 := Try.zeroValue117
  t46 := Try.underlying118
  a46 := Try.isAgg118
  z46 := Try.sizeOf118
  v46 := Try.zeroValue118
  t50 := Try.underlying122
  a50 := Try.isAgg122
  z50 := Try.sizeOf122
  v50 := Try.zeroValue122
  t53 := Try.underlying33
  a53 := Try.isAgg33
  z53 := Try.sizeOf33
  v53 := Try.zeroValue33
  t55 := Try.underlying126
  a55 := Try.isAgg126
  z55 := Try.sizeOf126
  v55 := Try.zeroValue126
  t66 := Try.underlying127
  a66 := Try.isAgg127
  z66 := Try.sizeOf127
  v66 := Try.zeroValue127
  t70 := Try.underlying131
  a70 := Try.isAgg131
  z70 := Try.sizeOf131
  v70 := Try.zeroValue131
  t76 := Try.underlying133
  a76 := Try.isAgg133
  z76 := Try.sizeOf133
  v76 := Try.zeroValue133
  t77 := Try.underlying134
  a77 := Try.isAgg134
  z77 := Try.sizeOf134
  v77 := Try.zeroValue134 }
def Try.sortI0_ren : Go.Shelf.Ren := ⟨fun | 6 => 66 | 15 => 78 | 14 => 77 | 28 => 88 | 29 => 89 | 20 => 80 | 21 => 81 | 22 => 82 | 23 => 83 | 24 => 84 | 25 => 85 | 26 => 86 | 27 => 87 | 46 => 90 | 47 => 91 | 48 => 92 | 49 => 93 | 50 => 94 | 57 => 95 | n => n, fun | 22 => 49 | 24 => 3 | 25 => 108 | 3 => 3 | 39 => 115 | 0 => 0 | 53 => 33 | 55 => 126 | 4 => 4 | 46 => 118 | 45 => 117 | 50 => 122 | 5 => 5 | 9 => 9 | 66 => 127 | 70 => 131 | 76 => 133 | 77 => 134 | n => n, fun | n => n⟩
theorem Try.sortI0 : Go.Proofs.SlLaysF0.n6 Try.prog Try.sortI0_ren := {
  mixed := by kernel_rfl
  f6 := ⟨Try.f66.name, by decide, Try.func66.trans (congrArg some (by kernel_rfl))⟩
  f14 := ⟨Try.f77.name, by decide, Try.func77.trans (congrArg some (by kernel_rfl))⟩
  f15 := Try.func78.trans (congrArg some (by kernel_rfl))
  f20 := ⟨Try.f80.name, by decide, Try.func80.trans (congrArg some (by kernel_rfl))⟩
  f21 := ⟨Try.f81.name, by decide, Try.func81.trans (congrArg some (by kernel_rfl))⟩
  f22 := ⟨Try.f82.name, by decide, Try.func82.trans (congrArg some (by kernel_rfl))⟩
  f23 := ⟨Try.f83.name, by decide, Try.func83.trans (congrArg some (by kernel_rfl))⟩
  f24 := ⟨Try.f84.name, by decide, Try.func84.trans (congrArg some (by kernel_rfl))⟩
  f25 := ⟨Try.f85.name, by decide, Try.func85.trans (congrArg some (by kernel_rfl))⟩
  f26 := ⟨Try.f86.name, by decide, Try.func86.trans (congrArg some (by kernel_rfl))⟩
  f27 := ⟨Try.f87.name, by decide, Try.func87.trans (congrArg some (by kernel_rfl))⟩
  f28 := Try.func88.trans (congrArg some (by kernel_rfl))
  f29 := Try.func89.trans (congrArg some (by kernel_rfl))
  f46 := ⟨Try.f90.name, by decide, Try.func90.trans (congrArg some (by kernel_rfl))⟩
  f47 := Try.func91.trans (congrArg some (by kernel_rfl))
  f48 := Try.func92.trans (congrArg some (by kernel_rfl))
  f49 := ⟨Try.f93.name, by decide, Try.func93.trans (congrArg some (by kernel_rfl))⟩
  f50 := ⟨Try.f94.name, by decide, Try.func94.trans (congrArg some (by kernel_rfl))⟩
  f57 := ⟨Try.f95.name, by decide, Try.func95.trans (congrArg some (by kernel_rfl))⟩
  t0 := Try.underlying0
  a0 := Try.isAgg0
  z0 := Try.sizeOf0
  v0 := Try.zeroValue0
  t3 := Try.underlying3
  a3 := Try.isAgg3
  z3 := Try.sizeOf3
  v3 := Try.zeroValue3
  t4 := Try.underlying4
  a4 := Try.isAgg4
  z4 := Try.sizeOf4
  v4 := Try.zeroValue4
  t5 := Try.underlying5
  a5 := Try.isAgg5
  z5 := Try.sizeOf5
  v5 := Try.zeroValue5
  t9 := Try.underlying9
  a9 := Try.isAgg9
  z9 := Try.sizeOf9
  v9 := Try.zeroValue9
  t22 := Try.underlying49
  a22 := Try.isAgg49
  z22 := Try.sizeOf49
  v22 := Try.zeroValue49
  t25 := Try.underlying108
  a25 := Try.isAgg108
  z25 := Try.sizeOf108
  v25 := Try.zeroValue108
  t39 := Try.underlying115
  a39 := Try.isAgg115
  z39 := Try.sizeOf115
  v39 := Try.zeroValue115
  t45 := Try.underlying117
  a45 := Try.isAgg117
  z45 := Try.sizeOf117
  v45 := Try.zeroValue117
  t46 := Try.underlying118
  a46 := Try.isAgg118
  z46 := Try.sizeOf118
  v46 := Try.zeroValue118
  t50 := Try.underlying122
  a50 := Try.isAgg122
  z50 := Try.sizeOf122
  v50 := Try.zeroValue122
  t53 := Try.underlying33
  a53 := Try.isAgg33
  z53 := Try.sizeOf33
  v53 := Try.zeroValue33
  t55 := Try.underlying126
  a55 := Try.isAgg126
  z55 := Try.sizeOf126
  v55 := Try.zeroValue126
  t66 := Try.underlying127
  a66 := Try.isAgg127
  z66 := Try.sizeOf127
  v66 := Try.zeroValue127
  t70 := Try.underlying131
  a70 := Try.isAgg131
  z70 := Try.sizeOf131
  v70 := Try.zeroValue131
  t76 := Try.underlying133
  a76 := Try.isAgg133
  z76 := Try.sizeOf133
  v76 := Try.zeroValue133
  t77 := Try.underlying134
  a77 := Try.isAgg134
  z77 := Try.sizeOf134
  v77 := Try.zeroValue134 }
def numN (l : List Nat) : List Value := l.map (fun k : Nat => Value.int .i64 (k : Int))
theorem numN_len (l : List Nat) : (numN l).length = l.length := by simp [numN]
section
variable {α : Type} [Inhabited α] (enc : α → Value) {w : World} {g n : Nat} {os : Array Obj}
theorem heap_sorted1 {cur : Array Value} {e : TypeId} {fr : Nat × Nat} (d : Array α) (hb : w.heap[g]? = some (.cells cur e fr)) : (sortWorld enc w g 0 n d os).heap[g]? = some (.cells (putCells enc 0 d cur) e fr) := by
  have hg : g < w.heap.size := (Array.getElem?_eq_some_iff.1 hb).1
  unfold sortWorld
  rw [heap_grow_old _ _ (by simpa using hg)]
  simp [putRow, mapBlock, Sort.ahead, Array.getElem?_modify, hb, onCells]
theorem heap_sorted1_other (d : Array α) {k : Nat} (hk : k < w.heap.size) (hne : k ≠ g) : (sortWorld enc w g 0 n d os).heap[k]? = w.heap[k]? := by
  unfold sortWorld
  rw [heap_grow_old _ _ (by simpa using hk)]
  have : g ≠ k := fun e => hne e.symm
  simp [putRow, mapBlock, Sort.ahead, Array.getElem?_modify, this]
theorem size_sorted1 (d : Array α) : w.heap.size ≤ (sortWorld enc w g 0 n d os).heap.size := by
  unfold sortWorld
  simp [grow, putRow, mapBlock, Sort.ahead]
theorem take_put1 (cur : Array Value) (d : Array α) (h : d.size ≤ cur.size) : (putCells enc 0 d cur).toList.take d.size = d.toList.map enc := by
  apply List.ext_getElem?
  intro j
  by_cases hj : j < d.size
  · rw [List.getElem?_take_of_lt hj, Array.getElem?_toList]
    simp [putCells, hj, show j < cur.size by omega]
  · rw [List.getElem?_take_eq_none (by omega), List.getElem?_eq_none (by simp; omega)]
end
theorem ci_neg (x y : Int) : (ci x y < 0) = (x < y) := by
  unfold ci
  split
  · simp; omega
  · split
    · simp; omega
    · simp; omega
section
variable {rs : List (Option Er)}
/-- those that live -/
abbrev Liv (rs : List (Option Er)) : Type := { k : Nat // Lv rs k }
def encL (x : Liv rs) : Value := .int .i64 (x.1 : Int)
def cfL (x y : Liv rs) : Int := ci (ser rs x.1) (ser rs y.1)
theorem lt_cfL (x y : Liv rs) : ltOf cfL x y = decide (ser rs x.1 < ser rs y.1) := by
  show decide (ci (ser rs x.1) (ser rs y.1) < 0) = _
  simp only [ci_neg]
theorem swo_cfL : SWO (ltOf (cfL (rs := rs))) where
  irrefl x := by rw [lt_cfL]; simp
  trans x y z h1 h2 := by rw [lt_cfL, decide_eq_true_iff] at *; omega
  ntrans x y z h1 h2 := by rw [lt_cfL, decide_eq_false_iff_not] at *; omega
/-- no two have the same serial -/
def Dis (rs : List (Option Er)) : Prop := ∀ a b, Lv rs a → Lv rs b → ser rs a = ser rs b → a = b
theorem enters_cfL : ∀ args w, (callFunc 67 args).run Try.prog w = .ok (.enter 67 args) w := enters_of Try.func67 (by kernel_rfl) rfl
end
theorem sortK_any (w : World) (F : Nat → Prop) (T : Nat) (rs : List (Option Er)) (last : Int) (h : Et w F T rs last) (hD : Dis rs) (tb : Nat) (tt : TypeId) (htb : w.heap[tb]? = some (.cells #[.pointer (some ⟨T, 0, none⟩)] tt (0, 0))) (base : Nat) (v : Value) (ks : List Nat) (hL : ∀ k ∈ ks, Lv rs k)
    (hrow : w.ownsRow base 3 1 v ks.length (numN ks)) (hv : ∀ b, v.ownBlock = some b → ¬ F b ∧ b ≠ tb) (hle : ks.length ≤ 4096) :
    Calls Try.prog 66 #[v, .func (.func 67) #[] #[.pointer (some ⟨tb, 0, none⟩)]] w fun e w' => e = .returned (.tuple #[]) ∧ ∃ ts, List.Perm ts ks ∧ ts.Pairwise (fun a b => ser rs a ≤ ser rs b) ∧ w'.ownsRow base 3 1 v ts.length (numN ts) ∧ w.grownBy w' v.ownBlock := by
  by_cases h0 : ks = []
  · subst h0
    obtain ⟨a, c, rfl⟩ := own_shape hrow
    have hcon := AnyF.slices_SortFunc_none Try.sortI0 a c (.func (.func 67) #[] #[.pointer (some ⟨tb, 0, none⟩)]) w
    change Calls Try.prog 66 _ _ _ at hcon
    refine hcon.mono ?_
    rintro e w' ⟨rfl, rfl⟩
    exact ⟨rfl, [], List.Perm.refl _, List.Pairwise.nil, hrow, ⟨rfl, rfl, rfl, Nat.le_refl _, fun _ _ _ => rfl⟩⟩
  · obtain ⟨k0, hk0⟩ : ∃ k, k ∈ ks := List.exists_mem_of_ne_nil _ h0
    haveI : Inhabited (Liv rs) := ⟨⟨k0, hL k0 hk0⟩⟩
    obtain ⟨d, hd⟩ : ∃ d : List (Liv rs), d.map (·.1) = ks := ⟨ks.attach.map (fun x => ⟨x.1, hL x.1 x.2⟩), by simp⟩
    have hdl : d.length = ks.length := by rw [← hd]; simp
    rcases hrow.2 with ⟨hnil, h00⟩ | ⟨g, cap, cur, rfl, hbase, hb, h1, h2, h3, h4⟩
    · exact absurd (List.length_eq_zero_iff.1 h00) h0
    obtain ⟨hgF, hgt⟩ := hv g rfl
    have hcmp : CmpLays1 Try.prog 67 #[.pointer (some ⟨tb, 0, none⟩)] (encL (rs := rs)) cfL g 0 d.toArray.size w := by
      intro m os dk _ x y
      have hE : Et (sortWorld (encL (rs := rs)) w g 0 m dk os) F T rs last := h.keep (size_sorted1 _ _) (fun b hb' => heap_sorted1_other _ _ (h.lt b hb') (fun e => hgF (e ▸ hb')))
      have hc : (sortWorld (encL (rs := rs)) w g 0 m dk os).cell? ⟨tb, 0, none⟩ = some (.pointer (some ⟨T, 0, none⟩)) := by
        rw [cell_of_row _ _ _ _ _ _ ((heap_sorted1_other _ _ (Array.getElem?_eq_some_iff.1 htb).1 (fun e => hgt e.symm)).trans htb)]; rfl
      refine (cmpK_any _ F T rs last hE tb hc x.1 y.1 x.2 y.2).mono ?_
      rintro e w' ⟨rfl, q, rfl⟩
      exact ⟨rfl, q, #[], by rw [grow_empty]⟩
    have hH : Holds (encL (rs := rs)) w g 0 d.toArray := by
      intro j hj
      have hj' : j < ks.length := by simpa [hdl] using hj
      refine ⟨?_, by simp [World.frozen?, hb]⟩
      have e1 : (cur.toList.take ks.length)[j]? = (numN ks)[j]? := by rw [← h4]; simp
      rw [List.getElem?_take_of_lt hj', Array.getElem?_toList] at e1
      rw [show 0 + j = j by omega, cell_of_row _ _ _ _ _ _ hb, e1]
      have hjd : j < d.length := by omega
      simp only [numN, ← hd, List.map_map, List.getElem?_map, List.getElem?_eq_getElem hjd]
      rw [getElem!_pos _ j hj]
      simp [encL]
    have hcon := Any.slices_SortFunc_total Try.sortI (encL (rs := rs)) (fun _ => rfl) cfL swo_cfL 67 #[.pointer (some ⟨tb, 0, none⟩)] g 0 cap d.toArray w enters_cfL hcmp hH (Array.getElem?_eq_some_iff.1 hb).1 (by simp; omega) (fun x y e1 e2 => by
      rw [lt_cfL, decide_eq_false_iff_not] at e1 e2
      exact Subtype.ext (hD _ _ x.2 y.2 (by omega)))
    change Calls Try.prog 66 _ _ _ at hcon
    rw [show d.toArray.size = ks.length by simp [hdl]] at hcon
    refine hcon.mono ?_
    rintro e w' ⟨rfl, n, os, rfl⟩
    have hp : (d.toArray.toList.mergeSort fun x y => !ltOf cfL y x).Perm d := List.mergeSort_perm _ _
    have hpl := hp.length_eq
    refine ⟨rfl, (d.toArray.toList.mergeSort fun x y => !ltOf cfL y x).map (·.1), ?_, ?_, ?_, ?_⟩
    · rw [← hd]; exact hp.map _
    · refine List.Pairwise.map _ (fun a b hab => hab) ?_
      refine List.Pairwise.imp (fun {a b} h => ?_) (List.pairwise_mergeSort (le := fun x y => !ltOf cfL y x) (fun a b c h1 h2 => ?_) (fun a b => ?_) d.toArray.toList)
      · simp only [Bool.not_eq_true', lt_cfL, decide_eq_false_iff_not] at h
        omega
      · simp only [Bool.not_eq_true', lt_cfL, decide_eq_false_iff_not] at h1 h2 ⊢
        omega
      · simp only [lt_cfL]
        by_cases e : ser rs b.1 < ser rs a.1 <;> simp [e]; omega
    · have h5 := take_put1 (encL (rs := rs)) cur (d.toArray.toList.mergeSort fun x y => !ltOf cfL y x).toArray (by simp [hdl]; omega)
      refine ⟨by simp [numN], .inr ⟨g, cap, _, by simp [hdl], hbase, heap_sorted1 _ _ hb, by simp [hdl]; omega, h2, by simp [putCells, h3], ?_⟩⟩
      rw [show ((d.toArray.toList.mergeSort fun x y => !ltOf cfL y x).map (·.1)).length * 1 = (d.toArray.toList.mergeSort fun x y => !ltOf cfL y x).toArray.size by simp, h5]
      simp [numN, encL]
    · refine ⟨rfl, rfl, rfl, size_sorted1 _ _, fun k hk hne => heap_sorted1_other _ _ hk (fun e => hne (by rw [e]; rfl))⟩
end Go.Proofs.Ytoddadohmnaolab

namespace Go.Proofs.Ytoddadohmnaolab
open Go.RowKit Go.Shelf
attribute [local go_sem] Oper.semAt_some

theorem asked_wide (P : Program) (o : Oper) (a : Act) (C : World → Prop) : o.askedIn Fence.wide P a C := by
  intro w _ f _
  trivial
theorem keepsOthers_below {W W' : World} (h : Below W.heap.size W W') : KeepsOthers W W' := ⟨h.size, fun k _ hk _ => (h.block k (Array.getElem?_eq_some_iff.1 hk).1).trans hk⟩
theorem boxed_below {w w' : World} {B : Nat} {t : TypeId} {v : Value} (h : Boxed w B t v) (hb : Below w.heap.size w w') : Boxed w' B t v := (hb.block B h.lt).trans h
theorem own_low {w : World} {base base' : Nat} {e : TypeId} {size : Nat} {v : Value} {n : Nat} {xs : List Value} (h : w.ownsRow base e size v n xs) (hb : base' ≤ base) : w.ownsRow base' e size v n xs := by
  obtain ⟨h1, h2 | ⟨g, cap, cur, h2, h3, h4, h5⟩⟩ := h
  · exact ⟨h1, .inl h2⟩
  · exact ⟨h1, .inr ⟨g, cap, cur, h2, Nat.le_trans hb h3, h4, h5⟩⟩
/-- a child of e -/
def kid (rs : List (Option Er)) (e : Int) (k : Nat) : Bool := match rs[k]? with | some (some r) => decide (r.pa = e) | _ => false
theorem kid_at {rs : List (Option Er)} {e : Int} {k : Nat} {r : Er} (h : rs[k]? = some (some r)) : kid rs e k = decide (r.pa = e) := by unfold kid; rw [h]
theorem kid_lv {rs : List (Option Er)} {e : Int} {k : Nat} (h : kid rs e k = true) : Lv rs k := by
  unfold kid at h
  split at h
  · exact ⟨_, by assumption⟩
  · cases h
def fitK (rs : List (Option Er)) (e : Int) (ps : List Nat) : List Nat := ps.filter (kid rs e)
/-- the children, by number -/
def kidsU (rs : List (Option Er)) (e : Int) : List Nat := fitK rs e ((prs rs 0).map Prod.fst)
theorem fitK_yes {rs : List (Option Er)} {e : Int} {ps : List Nat} {k : Nat} (h : kid rs e k = true) : fitK rs e (ps ++ [k]) = fitK rs e ps ++ [k] := by simp [fitK, h]
theorem fitK_no {rs : List (Option Er)} {e : Int} {ps : List Nat} {k : Nat} (h : kid rs e k = false) : fitK rs e (ps ++ [k]) = fitK rs e ps := by simp [fitK, h]
theorem fitK_le (rs : List (Option Er)) (e : Int) (ps : List Nat) : (fitK rs e ps).length ≤ ps.length := List.length_filter_le _ _
theorem prsL_same {α β : Type} : ∀ (a : List (Option α)) (b : List (Option β)) (s : Nat), a.length = b.length → (∀ i : Nat, a[i]? = some none ↔ b[i]? = some none) → (prsL s a).map Prod.fst = (prsL s b).map Prod.fst
  | [], [], _, _, _ => rfl
  | [], _ :: _, _, h, _ => by simp at h
  | _ :: _, [], _, h, _ => by simp at h
  | x :: a, y :: b, s, h, hh => by
    have ih := prsL_same a b (s + 1) (by simpa using h) (fun i => by simpa using hh (i + 1))
    have h0 := hh 0
    simp at h0
    cases x with
    | none => obtain rfl := h0.1 rfl; exact ih
    | some x =>
      cases y with
      | none => exact absurd (h0.2 rfl) (by simp)
      | some y => simp only [prsL, List.map_cons, ih]
theorem EtAt.fsts {w : World} {F : Nat → Prop} {T S : Nat} {G : Nat → Prop} {m : List (Option Nat)} {rs : List (Option Er)} {last : Int} (h : EtAt w F T S G m rs last) : (prs m 0).map Prod.fst = (prs rs 0).map Prod.fst := by
  unfold prs
  refine prsL_same _ _ _ (by simp [h.len, h.rlen]) (fun i => ?_)
  simp only [List.drop_zero]
  constructor
  · exact h.free i
  · intro hi
    have hl : i < m.length := by rw [h.len, ← h.rlen]; exact (List.getElem?_eq_some_iff.1 hi).1
    cases hm : m[i]? with
    | none => rw [List.getElem?_eq_none_iff] at hm; omega
    | some o =>
      cases o with
      | none => rfl
      | some b => obtain ⟨e, h1, _⟩ := h.held i b hm; rw [hi] at h1; cases h1
set_option maxRecDepth 100000 in
set_option maxHeartbeats 8000000 in
theorem children_in (n : Nat) (hn : 3 ≤ n) (w : World) (F : Nat → Prop) (T : Nat) (rs : List (Option Er)) (last : Int) (S : Nat) (G : Nat → Prop) (m : List (Option Nat)) (h : EtAt w F T S G m rs last) (hD : Dis rs) (e : Int) :
    CallsIn Fence.wide n Try.prog 46 #[.pointer (some ⟨T, 0, none⟩), .int .i64 e] w fun x W' => ∃ v ts, x = .returned v ∧ List.Perm ts (kidsU rs e) ∧ ts.Pairwise (fun a b => ser rs a ≤ ser rs b) ∧ W'.ownsRow w.heap.size 3 1 v ts.length (numN ts) ∧ Below w.heap.size w W' := by
  have h1 : 1 ≤ n := by omega
  obtain ⟨i3, hi, hz, hs, hb⟩ := info3'
  have cT := fun o o' o'' => (h.keep (w' := ((w.alloc o).alloc o').alloc o'') (by simp; omega) (fun b hb => by
    have := h.lt b hb
    rw [Below.heap_alloc _ _ _ (by simp; omega), Below.heap_alloc _ _ _ (by simp; omega), Below.heap_alloc _ _ _ this])).cell.1
  refine callsIn_of_wp_marks Try.func46 rfl trivial ?_ rfl
  simp only [Try.ntmps46, List.size_toArray, List.length_cons, List.length_nil, Nat.reduceAdd, Nat.reduceSub, Array.replicate_succ, Array.replicate_zero, List.push_toArray, List.append_toArray, List.nil_append, List.cons_append]
  gi_wp2_with fail
  refine ⟨trivial, (allL_in S (n - 1) _).mono ?_⟩
  rintro e' w' ⟨rfl, rfl⟩
  gi_wp2_with fail
  -- the range
  have c0 := ((Boxed.new w 23 (.pointer (some ⟨T, 0, none⟩))).alloc (.cells #[.int .i64 e] 3)).alloc (.cells #[.slice none 0 0] 49)
  have c1 := (Boxed.new (w.alloc (.cells #[.pointer (some ⟨T, 0, none⟩)] 23)) 3 (.int .i64 e)).alloc (.cells #[.slice none 0 0] 49)
  have c2 := Boxed.new ((w.alloc (.cells #[.pointer (some ⟨T, 0, none⟩)] 23)).alloc (.cells #[.int .i64 e] 3)) 49 (.slice none 0 0)
  have hbox := heap_alloc_new (((w.alloc (.cells #[.pointer (some ⟨T, 0, none⟩)] 23)).alloc (.cells #[.int .i64 e] 3)).alloc (.cells #[.slice none 0 0] 49)) (.cells #[.pointer (some ⟨S, 0, none⟩)] 73)
  have hB0 : Below w.heap.size w ((((w.alloc (.cells #[.pointer (some ⟨T, 0, none⟩)] 23)).alloc (.cells #[.int .i64 e] 3)).alloc (.cells #[.slice none 0 0] 49)).alloc (.cells #[.pointer (some ⟨S, 0, none⟩)] 73)) := ((((Below.refl _ w).alloc (Nat.le_refl _) _).alloc (by simp) _).alloc (by simp; omega) _).alloc (by simp; omega) _
  have hsz : ((((w.alloc (.cells #[.pointer (some ⟨T, 0, none⟩)] 23)).alloc (.cells #[.int .i64 e] 3)).alloc (.cells #[.slice none 0 0] 49)).alloc (.cells #[.pointer (some ⟨S, 0, none⟩)] 73)).heap.size = w.heap.size + 4 := by simp
  have c0' := c0.alloc (.cells #[.pointer (some ⟨S, 0, none⟩)] 73)
  have c1' := c1.alloc (.cells #[.pointer (some ⟨S, 0, none⟩)] 73)
  have c2' := c2.alloc (.cells #[.pointer (some ⟨S, 0, none⟩)] 73)
  simp only [World.size_alloc] at c1' c2' hbox
  clear c0 c1 c2 cT
  generalize ((((w.alloc (.cells #[.pointer (some ⟨T, 0, none⟩)] 23)).alloc (.cells #[.int .i64 e] 3)).alloc (.cells #[.slice none 0 0] 49)).alloc (.cells #[.pointer (some ⟨S, 0, none⟩)] 73)) = W0 at *
  have hT := h.tab
  have hG : ∀ b, (G b ∨ b = (w.heap.size + 1 + 1 + 1)) → b < W0.heap.size := by
    rintro b (hb | rfl)
    · have := hT.lt b hb; omega
    · omega
  have hFl : ∀ b, G b → b < w.heap.size := hT.lt
  have hlen : (prs m 0).length ≤ 16 := by rw [prs_len, ← h.len]; exact count_le
  refine wpIn_rangeFunc_ownH rfl h1 (gf := 64) (lb := #[.pointer (some ⟨(w.heap.size + 1 + 1 + 1), 0, none⟩)]) rfl trivial (enters_of Try.func64 (by kernel_rfl) rfl)
    (allL_stops (n - 1) (by omega) (w.heap.size + 1 + 1 + 1) S G m _ hbox (hT.below hB0)) keepF_t (keepF_b hG) (Below.refl _ _) (fun _ => rfl)
    (fun pre W => ((∃ v, Boxed W (w.heap.size + 1 + 1) 49 v ∧ W.ownsRow (w.heap.size + 4) 3 1 v (fitK rs e (pre.map (fun x => x.1.1))).length (numN (fitK rs e (pre.map (fun x => x.1.1)))) ∧ True) ∧ Boxed W w.heap.size 23 (.pointer (some ⟨T, 0, none⟩)) ∧ Boxed W (w.heap.size + 1) 3 (.int .i64 e) ∧ Boxed W (w.heap.size + 1 + 1 + 1) 73 (.pointer (some ⟨S, 0, none⟩)) ∧ pre.length ≤ (prs m 0).length) ∧ Below w.heap.size w W)
    (fun _ _ _ => False)
    (OwnFrom.and (Own.from (fun s A A' row hs hg hr => ⟨holdsRow_own (w.heap.size + 4) (w.heap.size + 1 + 1) 49 3 1 (fun s : List { x : Nat × Nat // m[x.1]? = some (some x.2) } => (fitK rs e (s.map (fun x => x.1.1))).length) (fun s => numN (fitK rs e (s.map (fun x => x.1.1)))) (fun _ _ => True) s A A' row hs.1 hg hr,
        hs.2.1.kept hg (fun e9 => by obtain ⟨o, h1, h2⟩ := hr _ e9.symm; rw [show A.heap[w.heap.size]? = _ from hs.2.1] at h1; cases h1; cases h2),
        hs.2.2.1.kept hg (fun e9 => by obtain ⟨o, h1, h2⟩ := hr _ e9.symm; rw [show A.heap[(w.heap.size + 1)]? = _ from hs.2.2.1] at h1; cases h1; cases h2),
        hs.2.2.2.1.kept hg (fun e9 => by obtain ⟨o, h1, h2⟩ := hr _ e9.symm; rw [show A.heap[(w.heap.size + 1 + 1 + 1)]? = _ from hs.2.2.2.1] at h1; cases h1; cases h2), hs.2.2.2.2⟩) _) (ownFrom_below (Nat.le_refl _) (by omega)))
    (fun _ _ _ _ _ hs _ _ => hs)
    ⟨⟨⟨_, c2', ⟨rfl, .inl ⟨rfl, rfl⟩⟩, trivial⟩, c0', c1', hbox, by simp⟩, hB0⟩
    (fun x a' _ => a' = { tmps := #[.pointer (some ⟨T, 0, none⟩), .int .i64 e, .pointer (some ⟨w.heap.size, 0, none⟩), .pointer (some ⟨(w.heap.size + 1), 0, none⟩), .slice none 0 0, .pointer (some ⟨(w.heap.size + 1 + 1), 0, none⟩), .int .i64 (x.1.1 : Nat), .pointer (some ⟨x.1.2, 0, none⟩), .pointer (some ⟨T, 0, none⟩), .pointer (some ⟨T, 0, none⟩), .pointer (some ⟨T, 0, none⟩), .pointer (some ⟨S, 0, none⟩), .func (.func 64) #[] #[.pointer (some ⟨(w.heap.size + 1 + 1 + 1), 0, none⟩)], .int .i64 (x.1.1 : Nat), .pointer (some ⟨x.1.2, 0, none⟩), undef, undef, undef, undef, undef, undef, undef, undef, undef, undef, undef, undef, undef, undef, undef], defers := [] })
    (fun _ _ _ _ _ _ hs _ _ => hs)
    ?assign ?body ?done ?stop
  case assign =>
    rintro l pre x W K hi' hK
    obtain ⟨⟨xi, xb⟩, hx⟩ := x
    gi_wp2
    exact hK _ _ (KeepsFrom.refl _ _) ⟨Nat.le_refl _, fun _ _ => rfl⟩ hi' rfl
  case body =>
    rintro l pre x a' W hl ⟨r, hr⟩ ⟨⟨⟨v, bS, hown, _⟩, bT, bE, bA, hpl⟩, hB⟩ rfl hlt
    obtain ⟨⟨xi, xb⟩, hx⟩ := x
    obtain ⟨rec, hr1, hr2⟩ := h.held xi xb hx
    have hRb := hr2.keep (hB.block xb hr2.lt)
    have cP := hRb.get (j := 1) rfl
    have cE := bE.cell
    have hkid := kid_at (e := e) hr1
    have hpre : (fitK rs e (pre.map (fun x => x.1.1))).length ≤ 16 := by have := fitK_le rs e (pre.map (fun x => x.1.1)); simp at this; omega
    have bd0 : ∀ nq : Nat, Below W.heap.size W (W.drewN nq) := fun nq => ⟨rfl, rfl, rfl, Nat.le_refl _, fun _ _ => rfl⟩
    clear hr1 hr2 hRb
    generalize rec.pa = pa at *
    gi_wp2_with fail
    have hb2 : Below W.heap.size W W.drew := ⟨rfl, rfl, rfl, Nat.le_refl _, fun _ _ => rfl⟩
    have bS2 := boxed_below bS hb2
    have bT2 := boxed_below bT hb2
    have bE2 := boxed_below bE hb2
    have bA2 := boxed_below bA hb2
    have hown2 := own_below hown hb2
    have hB2 := hB.trans (hb2.mono hB.size)
    have hK2 : KeepF (fun b => G b ∨ b = (w.heap.size + 1 + 1 + 1)) W W.drew := ⟨hb2.size, fun b hb' => hb2.block b (by rcases hb' with hb' | rfl; have := hFl b hb'; have := hB.size; omega; exact bA.lt)⟩
    have hO2 := (keepsOthers_below hb2).from W0.heap.size
    obtain ⟨ao, co, rfl⟩ := own_shape hown2
    have HF := hide (And.intro bS2 (And.intro bT2 (And.intro bE2 (And.intro bA2 (And.intro hown2 (And.intro hB2 (And.intro hK2 hO2)))))))
    clear bS bT bE bA hown hB hb2 bd0 bS2 bT2 bE2 bA2 hown2 hB2 hK2 hO2
    by_cases hpe : pa = e
    · have hP : kid rs e xi = true := by rw [hkid]; simp [hpe]
      subst hpe
      clear hkid
      gi_region
      all_goals
        obtain ⟨bS2, bT2, bE2, bA2, hown2, hB2, hK2, hO2⟩ := HF.out
        generalize W.drew = W2 at *
        have cS := bS2.cell
        have hA4 := bA2.lt
        gi_wp2_with (gi_at_builtin; refine wpListIn_append_own_at _ rfl _ _ 49 rfl (w.heap.size + 4) 3 i3 (.int .i64 0) 1 8 Try.underlying49 hi hz hs hb rfl (by decide) _ _ _ rfl (hown2.alloc _) ⟨W2.heap.size, 0, none⟩ 1 1 [.int .i64 (xi : Int)] rfl rfl (cell_one_new _ _ _) (by simp [Value.oneCell']) (by unfold maxLen; omega) (by omega) (by simp; omega) ?_; intro v' w3 hown3 hg3 _ _
                     obtain ⟨gg, cap, rfl⟩ := ownsRow_succ hown3
                     obtain ⟨b1, b2, _, b4, b5⟩ := Boxed.appended bS2 (by decide) (own_low hown2 (show w.heap.size ≤ w.heap.size + 4 by omega)) hB2.size (by omega) (own_low hown3 (show w.heap.size ≤ w.heap.size + 4 by omega)) hg3
                     have b3 := hown3.kept (grownBy_setCell' w3 (w.heap.size + 1 + 1) (.slice (some ⟨gg, 0, none⟩) ((fitK rs pa (pre.map (fun x => x.1.1))).length + 1) cap)) (.inr (b1.not_row (by decide) hown3).symm)
                     have b6 := (bT2.alloc (.cells #[.int .i64 (xi : Int)] 3)).kept hg3 (bT2.not_row (by decide) hown2)
                     have b7 := (bA2.alloc (.cells #[.int .i64 (xi : Int)] 3)).kept hg3 (bA2.not_row (by decide) hown2)
                     have b8 := (bE2.alloc (.cells #[.int .i64 (xi : Int)] 3)).kept hg3 (fun e9 => by have := (World.ownsRow.lt hown2 _ e9.symm).1; omega)
                     have cB := b1.cell
                     have fB := b1.frozen)
        refine ⟨hO2.trans (b4.from _), keepF_t hK2 ⟨b5.size, fun b hb' => ?_⟩, ⟨⟨_, b2, ?_, trivial⟩, b6.other (by omega) _, b8.other (by omega) _, b7.other (by omega) _, by simp; omega⟩, hB2.trans b5⟩
        · rcases hb' with hb' | rfl
          · exact b5.block b (hFl b hb')
          · exact (b7.other (by omega) _).trans bA2.symm
        · rw [List.map_append, List.map_cons, List.map_nil, fitK_yes hP, List.length_append]
          have e9 : numN (fitK rs pa (List.map (fun x => x.1.1) pre) ++ [xi]) = numN (fitK rs pa (List.map (fun x => x.1.1) pre)) ++ [.int .i64 (xi : Int)] := by simp [numN]
          rw [e9]
          exact b3
    · have hP : kid rs e xi = false := by rw [hkid]; simp [hpe]
      have hd : decide (pa = e) = false := by simp [hpe]
      clear hkid
      gi_region
      all_goals
        obtain ⟨bS2, bT2, bE2, bA2, hown2, hB2, hK2, hO2⟩ := HF.out
        generalize W.drew = W2 at *
        have cS := bS2.cell
        have hA4 := bA2.lt
        gi_wp2
        refine ⟨hO2, hK2, ⟨⟨_, bS2, ?_, trivial⟩, bT2, bE2, bA2, by simp; omega⟩, hB2⟩
        rw [List.map_append, List.map_cons, List.map_nil, fitK_no hP]
        exact hown2
  case done =>
    rintro D ys W hDl hys ⟨⟨⟨v, bS, hown, _⟩, bT, bE, bA, hpl⟩, hB⟩ hK
    have hE : Et W F T rs last := ⟨S, G, m, h.keep hB.size (fun b hb => hB.block b (h.lt b hb))⟩
    have hk : fitK rs e (ys.map (fun x => x.1.1)) = kidsU rs e := by
      unfold kidsU
      rw [← h.fsts, ← hys, List.map_map]
      rfl
    rw [hk] at hown
    have hkl : (kidsU rs e).length ≤ 16 := by
      rw [← hk]
      have := fitK_le rs e (ys.map (fun x => x.1.1))
      simp at this
      omega
    obtain ⟨ao, co, rfl⟩ := own_shape hown
    have cS := bS.cell
    have HSo := hide (sortK_any W F T rs last hE hD w.heap.size 23 bT (w.heap.size + 4) _ (kidsU rs e) (fun k hk' => by
      unfold kidsU fitK at hk'
      exact kid_lv (List.mem_filter.1 hk').2) hown (fun b hb' => by
      have h9 := (World.ownsRow.lt hown b hb').1
      exact ⟨fun hf => by have := h.lt b hf; omega, by omega⟩) (by omega))
    gi_wp2_with fail
    refine ⟨trivial, (callsIn_wide.2 HSo.out).mono ?_⟩
    rintro e' w2 ⟨rfl, ts, hp, hpw, hrow2, hg⟩
    have bS2 := bS.kept hg (fun e9 => by have := (World.ownsRow.lt hown _ e9.symm).1; omega)
    have cS2 := bS2.cell
    have hB3 : Below w.heap.size w w2 := hB.grown hg hB.size (fun j ej => by have := (World.ownsRow.lt hown j ej).1; omega)
    have hKD : w2.heap[D]? = W.heap[D]? := hg.block D (Array.getElem?_eq_some_iff.1 hK).1 (fun e9 => by
      obtain ⟨_, ⟨h9, _⟩ | ⟨g9, cp9, cu9, h9, _, hc9, _⟩⟩ := hown
      · rw [h9] at e9; simp [Value.ownBlock] at e9
      · cases h9
        have e8 : D = g9 := by simpa [Value.ownBlock] using e9
        rw [← e8, hK] at hc9
        cases hc9)
    rw [← hKD] at hK
    clear HSo cS
    gi_wp2
    refine ⟨by simp, .inl ⟨_, _, rfl, run_takeDeferred hK, ?_⟩⟩
    refine ⟨_, results_tmp rfl _ _ _, _, ts, rfl, hp, hpw, ?_, hB3.trans (belowK_b (w := w) (Nat.le_refl _) w2 D _ _ (by omega) hK rfl rfl)⟩
    have h9 := own_low hrow2 (show w.heap.size ≤ w.heap.size + 4 by omega)
    exact ownsRow_putObj h9 _ hK rfl
  case stop =>
    rintro D c pre W _ _ h _
    exact h.elim
end Go.Proofs.Ytoddadohmnaolab

namespace Go.Proofs.Ytoddadohmnaolab
open Go.RowKit Go.Shelf

section
variable {rs : List (Option Er)}
/-- the children, by serial -/
def kids (rs : List (Option Er)) (e : Int) : List Nat := (kidsU rs e).mergeSort (fun a b => decide (ser rs a ≤ ser rs b))
theorem kidsU_lv {e : Int} {k : Nat} (h : k ∈ kidsU rs e) : Lv rs k := by
  unfold kidsU fitK at h
  exact kid_lv (List.mem_filter.1 h).2
theorem kids_eq (hD : Dis rs) {e : Int} {ts : List Nat} (hp : List.Perm ts (kidsU rs e)) (hs : ts.Pairwise (fun a b => ser rs a ≤ ser rs b)) : ts = kids rs e := by
  have hm : (kids rs e).Perm (kidsU rs e) := List.mergeSort_perm _ _
  refine List.Perm.eq_of_pairwise (le := fun a b => ser rs a ≤ ser rs b) (fun a b ha hb h1 h2 => hD a b (kidsU_lv (hp.mem_iff.1 ha)) (kidsU_lv (hm.mem_iff.1 hb)) (by omega)) hs ?_ (hp.trans hm.symm)
  refine (List.pairwise_mergeSort (le := fun a b => decide (ser rs a ≤ ser rs b)) (fun a b c h1 h2 => ?_) (fun a b => ?_) (kidsU rs e)).imp (fun {a b} h => of_decide_eq_true h)
  · simp only [decide_eq_true_eq] at h1 h2 ⊢; omega
  · by_cases h : ser rs a ≤ ser rs b <;> simp [h]; omega
theorem kids_mem {e : Int} {k : Nat} : k ∈ kids rs e ↔ k ∈ kidsU rs e := (List.mergeSort_perm (kidsU rs e) _).mem_iff
theorem children_any (w : World) (F : Nat → Prop) (T : Nat) (last : Int) (h : Et w F T rs last) (hD : Dis rs) (e : Int) :
    Calls Try.prog 46 #[.pointer (some ⟨T, 0, none⟩), .int .i64 e] w fun x W' => ∃ v, x = .returned v ∧ W'.ownsRow w.heap.size 3 1 v (kids rs e).length (numN (kids rs e)) ∧ Below w.heap.size w W' := by
  obtain ⟨S, G, m, h⟩ := h
  refine ((callsIn_wide (n := 3)).1 (children_in 3 (Nat.le_refl _) w F T rs last S G m h hD e)).mono ?_
  rintro x W' ⟨v, ts, rfl, hp, hs, ho, hb⟩
  obtain rfl := kids_eq hD hp hs
  exact ⟨v, rfl, ho, hb⟩
/-- the walk, no deeper than n -/
def wk (rs : List (Option Er)) : Nat → Nat → List Nat
  | 0, e => [e]
  | n + 1, e => e :: (kids rs (e : Int)).flatMap (wk rs n)
/-- no deeper than n -/
def Dp (rs : List (Option Er)) : Nat → Nat → Prop
  | 0, _ => False
  | n + 1, e => ∀ k ∈ kids rs (e : Int), Dp rs n k
theorem wk_take {n e k : Nat} {c : Nat} (hc : (kids rs (e : Int))[k]? = some c) : ((kids rs (e : Int)).take (k + 1)).flatMap (wk rs n) = ((kids rs (e : Int)).take k).flatMap (wk rs n) ++ wk rs n c := by
  have hk := (List.getElem?_eq_some_iff.1 hc).1
  rw [List.take_succ_eq_append_getElem hk, List.flatMap_append]
  rw [List.getElem?_eq_getElem hk] at hc
  simp [Option.some.inj hc]
theorem wk_part (n e k : Nat) : (e :: ((kids rs (e : Int)).take k).flatMap (wk rs n)).length ≤ (wk rs (n + 1) e).length := by
  simp only [wk, List.length_cons]
  have h : ((kids rs (e : Int)).take k).flatMap (wk rs n) <+: (kids rs (e : Int)).flatMap (wk rs n) := by
    conv => rhs; rw [← List.take_append_drop k (kids rs (e : Int)), List.flatMap_append]
    exact List.prefix_append _ _
  have := h.length_le
  omega
theorem numN_app (a b : List Nat) : numN (a ++ b) = numN a ++ numN b := by simp [numN]
theorem numN_one (a : List Nat) : ∀ u ∈ numN a, u.oneCell' = true := by
  intro u hu; simp [numN] at hu; obtain ⟨k, _, rfl⟩ := hu; rfl
end
set_option maxRecDepth 100000 in
set_option maxHeartbeats 3200000 in
theorem walk_any (rs : List (Option Er)) (hD : Dis rs) (hlen : ∀ n e, (wk rs n e).length ≤ 4096) (hkl : ∀ e, (kids rs e).length ≤ 4096) : ∀ (n : Nat) (e : Nat) (w : World) (F : Nat → Prop) (T : Nat) (last : Int), Et w F T rs last → Dp rs n e →
    Calls Try.prog 45 #[.pointer (some ⟨T, 0, none⟩), .int .i64 (e : Int)] w fun x W' => ∃ v, x = .returned v ∧ W'.ownsRow w.heap.size 3 1 v (wk rs n e).length (numN (wk rs n e)) ∧ Below w.heap.size w W'
  | 0, _, _, _, _, _, _, h => h.elim
  | n + 1, e, w, F, T, last, hE, hDp => by
    obtain ⟨i3, hi, hz, hs, hb⟩ := info3'
    have HI := hide (walk_any rs hD hlen hkl n)
    have HDp : Hid (∀ k ∈ kids rs (e : Int), Dp rs n k) := hDp
    have HE := hide hE
    have hb0 := (Below.refl w.heap.size w).alloc (Nat.le_refl _) (.cells #[.int .i64 (e : Int)] 3)
    have hr0 : (w.alloc (.cells #[.int .i64 (e : Int)] 3)).ownsRow w.heap.size 3 1 (.slice (some ⟨w.heap.size, 0, none⟩) 1 1) 1 [.int .i64 (e : Int)] := ⟨rfl, .inr ⟨w.heap.size, 1, _, rfl, Nat.le_refl _, heap_alloc_new w _, Nat.le_refl _, by unfold maxLen; omega, rfl, rfl⟩⟩
    have HB0 := hide hb0
    have HR0 := hide hr0
    have HCh := hide (children_any _ F T last (hE.below hb0) hD (e : Int))
    have HL := hide (hlen (n + 1) e)
    have hkl' := hkl (e : Int)
    have HP := hide (fun k => wk_part (rs := rs) n e k)
    clear hb0 hr0 hE hDp hkl
    go_enter Try.func45, Try.ntmps45
    go_wp2_with fail
    refine HCh.out.mono ?_
    rintro x1 w1 ⟨kv, rfl, hk, hb1⟩
    have HR1 := hide (own_below HR0.out hb1)
    have HB1 := hide (HB0.out.trans (hb1.mono HB0.out.size))
    have hs1 : w.heap.size < w1.heap.size := by have := hb1.size; simp at this; omega
    obtain ⟨ka, kc, rfl⟩ := own_shape hk
    have hkg : ∀ b, (Value.slice ka (kids rs (e : Int)).length kc).ownBlock = some b → w.heap.size < b ∧ b < w1.heap.size := fun b e9 => by
      have h9 := World.ownsRow.lt hk b e9
      have h8 := h9.1
      simp at h8
      exact ⟨h8, h9.2⟩
    have HK1 := hide (own_low hk (Nat.zero_le _))
    have HKg := hide hkg
    clear hk hb1 HR0 HB0 HCh hkg
    generalize hL : (kids rs (e : Int)).length = L at *
    go_upto_region 3 with fail
    have HU0 : Hid (∀ b, (Value.slice (some ⟨w.heap.size, 0, none⟩) 1 1).ownBlock = some b → b = w.heap.size ∨ w1.heap.size ≤ b) := hide (fun b e9 => .inl (by simpa [Value.ownBlock] using e9.symm))
    go_loopw [5, 14] (fun u x wr => ∃ k : Nat, k ≤ L ∧ x = .int .i64 (k : Int) ∧ Hid (wr.ownsRow w.heap.size 3 1 u (e :: ((kids rs (e : Int)).take k).flatMap (wk rs n)).length (numN (e :: ((kids rs (e : Int)).take k).flatMap (wk rs n)))) ∧ Hid (∀ b, u.ownBlock = some b → b = w.heap.size ∨ w1.heap.size ≤ b) ∧ Hid (wr.ownsRow 0 3 1 (.slice ka L kc) L (numN (kids rs (e : Int)))) ∧ Hid (Below w.heap.size w wr) ∧ Hid (w1.heap.size ≤ wr.heap.size)) (fun _ x _ => L - (intOf x).toNat)
    case atStart => exact ⟨0, by omega, rfl, HR1, HU0, HK1, HB1, Nat.le_refl _⟩
    case round =>
    clear HR1 HU0 HK1 HB1
    obtain ⟨k, hk, rfl, KR, KU, KK, KB, KS⟩ := hrel
    by_cases hlt : k < L
    · have hd : decide ((k : Int) < (L : Int)) = true := by simp; omega
      have hk3 : (k : Int) < (L : Int) := by omega
      obtain ⟨c, hc⟩ : ∃ c, (kids rs (e : Int))[k]? = some c := ⟨_, List.getElem?_eq_getElem (by omega)⟩
      obtain ⟨kg, rfl, hck⟩ : ∃ kg, ka = some ⟨kg, 0, none⟩ ∧ wr.cell? ⟨kg, k, none⟩ = some (.int .i64 (c : Int)) := by
        have h9 := KK.out
        obtain ⟨_, ⟨h0, _⟩ | ⟨g, cp, cur, h0, _⟩⟩ := KK.out
        · injection h0 with _ h8 _; omega
        · cases h0
          refine ⟨g, rfl, ?_⟩
          have := World.ownsRow.cells h9 rfl k (.int .i64 (c : Int)) (by simp [numN, hc])
          rw [add0] at this
          exact this
      have HW := hide (HI.out c wr F T last (HE.out.keep KB.out.size (fun b hb => KB.out.block b (HE.out.lt b hb))) (HDp.out c (List.mem_of_getElem? hc)))
      have HT := hide (wk_take (rs := rs) (n := n) hc)
      have HP1 := hide (HP.out (k + 1))
      have hg9 := HKg.out kg rfl
      clear HI HDp HP
      go_wp2_with fail
      refine HW.out.mono ?_
      rintro x2 w2 ⟨v2, rfl, hv2, hb2⟩
      have KR2 := hide (own_below KR.out hb2)
      have KK2 := hide (own_below KK.out hb2)
      have KB2 := hide (KB.out.trans (hb2.mono KB.out.size))
      have hs2 : w1.heap.size ≤ w2.heap.size := Nat.le_trans KS.out hb2.size
      obtain ⟨g2, c2, rfl, hc2⟩ : ∃ g cq, v2 = .slice (some ⟨g, 0, none⟩) (wk rs n c).length cq ∧ ∀ j u, (numN (wk rs n c))[j]? = some u → w2.cell? ((⟨g, 0, none⟩ : Addr).add j) = some u := by
        have h9 := hv2
        obtain ⟨_, ⟨_, h0⟩ | ⟨g, cp, cur, h0, _⟩⟩ := hv2
        · cases n <;> simp [wk] at h0
        · subst h0
          exact ⟨g, cp, rfl, fun j u hj => World.ownsRow.cells h9 rfl j u hj⟩
      obtain ⟨ua, uc, rfl⟩ := own_shape KR2.out
      rw [HT.out, ← List.cons_append, List.length_append] at HP1
      have hl9 := HL.out
      have hl8 := HP1.out
      clear hv2 hb2 HW KR KK KB KS hck
      generalize hF : (e :: ((kids rs (e : Int)).take k).flatMap (wk rs n)) = fl at *
      go_upto_region 6 with (at_builtin; refine wpList_append_own_at _ rfl _ _ 49 rfl w.heap.size 3 i3 (.int .i64 0) 1 8 Try.underlying49 hi hz hs hb rfl (by decide) _ _ _ rfl KR2.out ⟨g2, 0, none⟩ _ c2 (numN (wk rs n c)) rfl (by rw [numN_len]; omega) hc2 (numN_one _) (by unfold maxLen; omega) (by omega) (Nat.le_trans (Nat.le_of_lt hs1) hs2) ?_; intro v3 w3 hown3 hg3 _ hlo3)
      have hg4 : w2.grownBy w3 (Value.slice ua fl.length uc).ownBlock := hg3
      have hlo4 : v3.ownBlock = (Value.slice ua fl.length uc).ownBlock ∨ v3.ownBlock = some w2.heap.size := hlo3
      have K1 : Hid (w3.ownsRow w.heap.size 3 1 v3 (e :: ((kids rs (e : Int)).take (k + 1)).flatMap (wk rs n)).length (numN (e :: ((kids rs (e : Int)).take (k + 1)).flatMap (wk rs n)))) := by
        rw [HT.out, ← List.cons_append, hF, numN_app, List.length_append]
        exact hide hown3
      have K2 : Hid (∀ b, v3.ownBlock = some b → b = w.heap.size ∨ w1.heap.size ≤ b) := hide (fun b e9 => by
        rcases hlo4 with h9 | h9
        · rw [h9] at e9; exact KU.out b e9
        · rw [h9] at e9; cases e9; exact .inr hs2)
      have K3 : Hid (w3.ownsRow 0 3 1 (.slice (some ⟨kg, 0, none⟩) L kc) L (numN (kids rs (e : Int)))) := hide (KK2.out.kept hg4 (.inr (fun e9 => by
        rcases KU.out kg e9.symm with h9 | h9 <;> omega)))
      have K4 : Hid (Below w.heap.size w w3) := hide (KB2.out.grown hg4 KB2.out.size (fun j ej => by rcases KU.out j ej with h9 | h9 <;> omega))
      have K5 : Hid (w1.heap.size ≤ w3.heap.size) := hide (Nat.le_trans hs2 hg3.size)
      clear hown3 hg3 hlo3 hg4 hlo4 KR2 KK2 KB2 KU HP1 HT
      go_wp2
      go_roundw
      case rel =>
        first
          | exact ⟨k + 1, by omega, by go_num, K1, K2, K3, K4, K5⟩
          | ((repeat apply Exists.intro); refine ⟨?_, rfl⟩; exact ⟨k + 1, by omega, by go_num, K1, K2, K3, K4, K5⟩)
      case measure => simp [intOf]; omega
    · obtain rfl : k = L := by omega
      have hd : decide ((k : Int) < (k : Int)) = false := by simp
      have h9 := KR.out
      rw [← hL, List.take_length] at h9
      have KF := hide h9
      clear h9
      go_wp2
      go_ret
      exact ⟨_, rfl, KF.out, KB.out⟩
end Go.Proofs.Ytoddadohmnaolab

namespace Go.Proofs.Ytoddadohmnaolab
open Go.RowKit

set_option maxRecDepth 8000 in
set_option maxHeartbeats 3200000 in
theorem regain_any (w : World) (b : Nat) (r : Er) (h : Rb w b r) (q : Qt) (hq : q.ok) (hr : r.le.ok) : Calls Try.prog 57 #[.pointer (some ⟨b, 21, none⟩), q.val] w fun e w' => e = .returned (.tuple #[]) ∧ Rb w' b { r with le := r.le.plus q } ∧ At w b w' := by
  have hb1 := (Below.refl w.heap.size w).alloc (Nat.le_refl _) (.cells #[.int .i64 q.f, .int .i64 q.e, .int .i64 q.x] 32)
  have a1 := heap_alloc_new w (.cells #[.int .i64 q.f, .int .i64 q.e, .int .i64 q.x] 32)
  have hR := h.keep (hb1.block b h.lt)
  have HA1 := hide (At.of_below (b := b) hb1)
  have HNE : Hid (w.heap.size ≠ b) := hide (fun e => by have := h.lt; omega)
  have HC := hide (fun W => plus_any W r.le q hr hq)
  clear h hb1 hq hr
  unfold Qt.val at *
  simp only [Qt.plus] at HC
  go_enter Try.func57, Try.ntmps57
  go_upto_region 1 with fail
  generalize w.alloc (.cells #[.int .i64 q.f, .int .i64 q.e, .int .i64 q.x] 32) = w1 at *
  obtain ⟨N, hN⟩ : ∃ N, w.heap.size = N := ⟨_, rfl⟩
  rw [hN] at a1 HNE ⊢
  clear hN
  obtain ⟨w3, hw3⟩ : ∃ w3, w3 = w1.drew := ⟨_, rfl⟩
  have hR3 : Rb w3 b r := by rw [hw3]; exact ⟨hR.out⟩
  have a3 : w3.heap[N]? = some (.cells #[.int .i64 q.f, .int .i64 q.e, .int .i64 q.x] 32 (0, 0)) := by rw [hw3]; exact a1
  have HA3 : Hid (At w b w3) := by rw [hw3]; exact ⟨HA1.out.os, HA1.out.tape, HA1.out.output, HA1.out.size, HA1.out.block⟩
  have d0 := hR3.get (j := 24) rfl
  have d1 := hR3.get (j := 25) rfl
  have d2 := hR3.get (j := 26) rfl
  have HR3 := hide hR3
  have HA := hide a3
  clear hR hR3 a1 HA1
  refine wp_region_held_drew (S := fun W => W.heap[N]? = some (.cells #[.int .i64 q.f, .int .i64 q.e, .int .i64 q.x] 32 (0, 0))) (by kernel_rfl) (by rw [← hw3]; exact a3) (fun _ => ?_)
  rw [← hw3]
  clear hw3 a3
  refine hd_take 0 (o := ⟨some 4, _, _, _, _, _⟩) (.pointer (some ⟨b, 21, none⟩)) (by kernel_rfl) (by kernel_rfl) (by kernel_rfl) rfl (by rfl) (fun W hSw => by go_simp) (fun _ _ _ h => h) HA.out ?_
  simp only [Act.put, List.setIfInBounds_toArray, List.set_cons_zero, List.set_cons_succ]
  refine hd_take 1 (o := ⟨some 5, _, _, _, _, _⟩) (.pointer (some ⟨b, 21, none⟩)) (by kernel_rfl) (by kernel_rfl) (by kernel_rfl) rfl (by rfl) (fun W hSw => by go_simp) (fun _ _ _ h => h) HA.out ?_
  simp only [Act.put, List.setIfInBounds_toArray, List.set_cons_zero, List.set_cons_succ]
  refine hd_take 2 (o := ⟨some 6, _, _, _, _, _⟩) (.pointer (some ⟨b, 21, none⟩)) (by kernel_rfl) (by kernel_rfl) (by kernel_rfl) rfl (by rfl) (fun W hSw => by go_simp) (fun _ _ _ h => h) HA.out ?_
  simp only [Act.put, List.setIfInBounds_toArray, List.set_cons_zero, List.set_cons_succ]
  refine hd_take 3 (o := ⟨some 7, _, _, _, _, _⟩) (.pointer (some ⟨b, 24, none⟩)) (by kernel_rfl) (by kernel_rfl) (by kernel_rfl) rfl (by rfl) (fun W hSw => by go_simp) (fun _ _ _ h => h) HA.out ?_
  simp only [Act.put, List.setIfInBounds_toArray, List.set_cons_zero, List.set_cons_succ]
  refine hd_take 5 (o := ⟨some 9, _, _, _, _, _⟩) (.agg #[.int .i64 q.f, .int .i64 q.e, .int .i64 q.x]) (by kernel_rfl) (by kernel_rfl) (by kernel_rfl) rfl (by rfl) (fun W hSw => by obtain ⟨c0, c1, c2, -, -, -⟩ := blk3 hSw; go_simp) (fun _ _ _ h => h) HA.out ?_
  simp only [Act.put, List.setIfInBounds_toArray, List.set_cons_zero, List.set_cons_succ]
  refine hd_call 4 (o := ⟨some 8, _, _, _, _, _⟩) (by kernel_rfl) rfl (by rfl) (fun K hK => ?_)
  go_simp
  refine hK _ _ HA.out ?_
  clear hK K
  try simp only [Act.put, List.setIfInBounds_toArray, List.set_cons_zero, List.set_cons_succ]
  refine hd_call 6 (o := ⟨some 10, _, _, _, _, _⟩) (by kernel_rfl) rfl (by rfl) (fun K hK => ?_)
  go_simp
  go_wp2_with (go_at_call 73; refine (HC.out _).mono ?_; rintro e1 w9 ⟨rfl, hb9⟩)
  have HA9 : Hid (w9.heap[N]? = some (.cells #[.int .i64 q.f, .int .i64 q.e, .int .i64 q.x] 32 (0, 0))) := hide ((hb9.block N (Array.getElem?_eq_some_iff.1 HA.out).1).trans HA.out)
  have hR9 : Rb w9 b r := HR3.out.keep (hb9.block b HR3.out.lt)
  have HAt9 := hide (HA3.out.below hb9)
  clear hb9 d0 d1 d2
  refine hK _ _ HA9.out ?_
  clear hK K
  try simp only [Act.put, List.setIfInBounds_toArray, List.set_cons_zero, List.set_cons_succ]
  refine hd_take 7 (o := ⟨some 11, _, _, _, _, _⟩) (.pointer (some ⟨b, 21, none⟩)) (by kernel_rfl) (by kernel_rfl) (by kernel_rfl) rfl (by rfl) (fun W hSw => by go_simp) (fun _ _ _ h => h) HA9.out ?_
  simp only [Act.put, List.setIfInBounds_toArray, List.set_cons_zero, List.set_cons_succ]
  refine hd_take 8 (o := ⟨some 12, _, _, _, _, _⟩) (.pointer (some ⟨b, 24, none⟩)) (by kernel_rfl) (by kernel_rfl) (by kernel_rfl) rfl (by rfl) (fun W hSw => by go_simp) (fun _ _ _ h => h) HA9.out ?_
  simp only [Act.put, List.setIfInBounds_toArray, List.set_cons_zero, List.set_cons_succ]
  have d0 := hR9.get (j := 24) rfl
  have d1 := hR9.get (j := 25) rfl
  have d2 := hR9.get (j := 26) rfl
  have f0 := hR9.frz 24
  have f1 := hR9.frz 25
  have f2 := hR9.frz 26
  have HR9 := hide hR9
  clear hR9
  refine hd_call 9 (o := ⟨none, _, _, _, _, _⟩) (by kernel_rfl) rfl (by rfl) (fun K hK => ?_)
  go_simp
  refine hK _ _ (by rw [heap_setCell_other _ _ _ _ HNE.out, heap_setCell_other _ _ _ _ HNE.out, heap_setCell_other _ _ _ _ HNE.out]; exact HA9.out) ?_
  clear hK K
  refine wpAnyH_done (by kernel_rfl) ?_ _
  have HF : Hid (Rb (((w9.setCell ⟨b, 24, none⟩ (.int .i64 (r.le.f + q.f))).setCell ⟨b, 25, none⟩ (.int .i64 (r.le.e + q.e))).setCell ⟨b, 26, none⟩ (.int .i64 (r.le.x + q.x))) b { r with le := r.le.plus q }) :=
    hide (Rb.set (e := { r with le := ⟨r.le.f + q.f, r.le.e + q.e, r.le.x⟩ }) (Rb.set (e := { r with le := ⟨r.le.f + q.f, r.le.e, r.le.x⟩ }) (HR9.out.set rfl) rfl) rfl)
  have HG := hide (((HAt9.out.set 24 (.int .i64 (r.le.f + q.f))).set 25 (.int .i64 (r.le.e + q.e))).set 26 (.int .i64 (r.le.x + q.x)))
  go_wp2
  go_end0
  exact ⟨rfl, HF.out, HG.out⟩
end Go.Proofs.Ytoddadohmnaolab

namespace Go.Proofs.Ytoddadohmnaolab
open Go.RowKit Go.Shelf

/-- an environment's place is given up -/
theorem EtAt.shut {w w' : World} {F : Nat → Prop} {T S : Nat} {G : Nat → Prop} {m : List (Option Nat)} {rs : List (Option Er)} {last : Int} (h : EtAt w F T S G m rs last) {k : Nat} (hk : k < 16) (ht : Tab KL w' G S (m.set k none)) (hx : Ext G w G w') : EtAt w' F T S G (m.set k none) (rs.set k none) last where
  top := (hx.mod.block T (h.lt T h.fT) (fun e => (h.fG T e).2 rfl)).trans h.top
  tab := ht
  len := by simpa using h.len
  rlen := by simpa using h.rlen
  free i hi := by
    by_cases e : i = k
    · subst e; rw [List.getElem?_set_self (by rw [h.rlen]; exact hk)]
    · rw [List.getElem?_set_ne (fun e' => e e'.symm)] at hi ⊢; exact h.free i hi
  held i b hi := by
    by_cases e : i = k
    · subst e; rw [List.getElem?_set_self (by rw [h.len]; exact hk)] at hi; cases hi
    · rw [List.getElem?_set_ne (fun e' => e e'.symm)] at hi ⊢
      obtain ⟨r, h1, h2⟩ := h.held i b hi
      exact ⟨r, h1, h2.keep (hx.mod.block b h2.lt (h.own i b hi).2.2)⟩
  fT := h.fT
  fG := h.fG
  own i b hi := by
    by_cases e : i = k
    · subst e; rw [List.getElem?_set_self (by rw [h.len]; exact hk)] at hi; cases hi
    · rw [List.getElem?_set_ne (fun e' => e e'.symm)] at hi; exact h.own i b hi
  dis i j b hi hj := by
    by_cases e : i = k
    · subst e; rw [List.getElem?_set_self (by rw [h.len]; exact hk)] at hi; cases hi
    · by_cases e2 : j = k
      · subst e2; rw [List.getElem?_set_self (by rw [h.len]; exact hk)] at hj; cases hj
      · rw [List.getElem?_set_ne (fun e' => e e'.symm)] at hi
        rw [List.getElem?_set_ne (fun e' => e2 e'.symm)] at hj
        exact h.dis i j b hi hj
  lt b hb := Nat.lt_of_lt_of_le (h.lt b hb) hx.mod.size
/-- all of these are given up -/
def drops (rs : List (Option Er)) (l : List Nat) : List (Option Er) := l.foldl (fun rs c => rs.set c none) rs
theorem drops_snoc (rs : List (Option Er)) (l : List Nat) (c : Nat) : drops rs (l ++ [c]) = (drops rs l).set c none := by simp [drops]
theorem drops_len : ∀ (l : List Nat) (rs : List (Option Er)), (drops rs l).length = rs.length
  | [], _ => rfl
  | c :: l, rs => by show (drops (rs.set c none) l).length = _; rw [drops_len l]; simp
theorem drops_other : ∀ (l : List Nat) (rs : List (Option Er)) (c : Nat), c ∉ l → (drops rs l)[c]? = rs[c]?
  | [], _, _, _ => rfl
  | d :: l, rs, c, h => by
    show (drops (rs.set d none) l)[c]? = _
    rw [drops_other l _ c (fun e => h (List.mem_cons_of_mem _ e)), List.getElem?_set_ne (fun e => h (by rw [e]; exact List.mem_cons_self))]
theorem drops_gone : ∀ (l : List Nat) (rs : List (Option Er)) (c : Nat), c ∈ l → c < rs.length → (drops rs l)[c]? = some none
  | d :: l, rs, c, h, hc => by
    show (drops (rs.set d none) l)[c]? = _
    by_cases e : c ∈ l
    · exact drops_gone l _ c e (by simpa using hc)
    · rw [drops_other l _ c e]
      rcases List.mem_cons.1 h with rfl | h
      · rw [List.getElem?_set_self hc]
      · exact absurd h e
section
variable (w : World) (F : Nat → Prop) (T : Nat) (rs : List (Option Er)) (last : Int)
set_option maxHeartbeats 800000 in
theorem destroyNone_any (h : Et w F T rs last) (e : Int) (hn : look rs e = none) : Calls Try.prog 34 #[.pointer (some ⟨T, 0, none⟩), .int .i64 e] w fun x w' => x = .returned (.tuple #[.slice none 0 0, .int .i64 90]) ∧ w' = w := by
  obtain ⟨S, G, m, h⟩ := h
  have c0 := h.cell.1
  have HG := hide (getL_any _ G S m h.tab e)
  rcases h.cases e with ⟨h1, _⟩ | ⟨k', b, r', e1, hm, h3, h4, h5, hR⟩
  · rw [h1] at HG
    simp only [ptr, Option.isSome_none] at HG
    clear h h1
    go_enter Try.func34, Try.ntmps34
    go_wp2_with fail
    refine HG.out.mono ?_
    rintro e1 w1 ⟨rfl, rfl⟩
    go_wp2
    go_ret2
    exact ⟨rfl, rfl⟩
  · rw [hn] at h5; cases h5
set_option maxHeartbeats 800000 in
theorem destroyZero_any (h : Et w F T rs last) (r : Er) (hr : rs[0]? = some (some r)) : Calls Try.prog 34 #[.pointer (some ⟨T, 0, none⟩), .int .i64 0] w fun x w' => x = .returned (.tuple #[.slice none 0 0, .int .i64 92]) ∧ w' = w := by
  obtain ⟨S, G, m, h⟩ := h
  have c0 := h.cell.1
  have HG := hide (getL_any _ G S m h.tab ((0 : Nat) : Int))
  rcases h.cases ((0 : Nat) : Int) with ⟨_, h1⟩ | ⟨k', b, r', e1, hm, h3, h4, h5, hR⟩
  · rw [look_nat, hr] at h1; cases h1
  · rw [h4] at HG
    simp only [ptr, Option.isSome_some] at HG
    clear h h4 h5 hR
    go_enter Try.func34, Try.ntmps34
    go_wp2_with fail
    refine HG.out.mono ?_
    rintro e1 w1 ⟨rfl, rfl⟩
    go_wp2
    go_ret2
    exact ⟨rfl, rfl⟩
end
end Go.Proofs.Ytoddadohmnaolab

namespace Go.Proofs.Ytoddadohmnaolab
open Go.RowKit Go.Shelf

section
variable (w : World) (F : Nat → Prop) (T : Nat) (rs : List (Option Er)) (last : Int)
set_option maxRecDepth 100000 in
set_option maxHeartbeats 6400000 in
theorem destroyOk_any (h : Et w F T rs last) (k p : Nat) (r rp : Er) (hr : rs[k]? = some (some r)) (hk0 : k ≠ 0) (hpa : r.pa = (p : Int)) (hp : rs[p]? = some (some rp)) (hkp : p ≠ k) (hq : r.qu.ok) (hq1 : (r.qu.plus Qt.one).ok) (hle : rp.le.ok)
    (rs1 : List (Option Er)) (hrs1 : rs1 = rs.set p (some { rp with le := rp.le.plus (r.qu.plus Qt.one) })) (hD : Dis rs1) (hlen : ∀ n e, (wk rs1 n e).length ≤ 4096) (hkl : ∀ e, (kids rs1 e).length ≤ 4096) (n : Nat) (hDp : Dp rs1 n k) (hnd : (wk rs1 n k).Nodup) (hlv : ∀ c ∈ wk rs1 n k, Lv rs1 c) :
    Calls Try.prog 34 #[.pointer (some ⟨T, 0, none⟩), .int .i64 (k : Int)] w fun x w' => ∃ v, x = .returned (.tuple #[v, .int .i64 0]) ∧ Et w' F T (drops rs1 (wk rs1 n k)) last ∧ w'.ownsRow w.heap.size 3 1 v (wk rs1 n k).length (numN (wk rs1 n k)) ∧ Mod F w w' := by
  have hFl := h.lt
  obtain ⟨S, G, m, h⟩ := h
  rcases h.cases (k : Int) with ⟨_, h1⟩ | ⟨k', bk, r', e1, hmk, h3, h4, h5, hRk⟩
  · rw [look_nat, hr] at h1; cases h1
  obtain rfl : k = k' := by omega
  rw [hr] at h3; cases h3
  rcases h.cases (p : Int) with ⟨_, h1⟩ | ⟨k', bp, r', e2, hmp, h3, h6, h7, hRp⟩
  · rw [look_nat, hp] at h1; cases h1
  obtain rfl : p = k' := by omega
  rw [hp] at h3; cases h3
  have hbb : bk ≠ bp := fun e => hkp (h.dis p k bp hmp (e ▸ hmk))
  have c0 := h.cell.1
  have cp := hRk.get (j := 1) rfl
  rw [hpa] at cp
  have HG1 := hide (getL_any _ G S m h.tab (k : Int))
  rw [h4] at HG1
  simp only [ptr, Option.isSome_some] at HG1
  have HG2 : Hid (∀ j, Calls Try.prog 29 #[.pointer (some ⟨S, 0, none⟩), .int .i64 (p : Int)] (w.drewN j) fun x w' => x = .returned (.tuple #[.pointer (some ⟨bp, 0, none⟩), .bool true]) ∧ w' = w.drewN j) := hide (fun j => by
    have h9 := getL_any (w.drewN j) G S m (h.tab.keep (Nat.le_refl _) (fun _ _ => rfl)) (p : Int)
    rw [h6] at h9
    exact h9)
  have HC1 := hide (fun W => price_any W r.qu hq)
  have HC2 := hide (fun W (hb : Rb W bp rp) => regain_any W bp rp hb (r.qu.plus Qt.one) hq1 hle)
  have HH := hide h
  have HRk := hide hRk
  have HRp := hide hRp
  have HBB := hide hbb
  have hk0' : ((k : Int) == 0) = false := by simp; omega
  have HFl := hide hFl
  have HW := hide (fun W (hE : Et W F T rs1 last) => walk_any rs1 hD hlen hkl n k W F T last hE hDp)
  have HND := hide hnd
  have HLV := hide hlv
  have HLen := hide (hlen n k)
  have HM := hide hmp
  have HX := hide hrs1
  obtain ⟨qp, hqp⟩ : ∃ qp, r.qu.plus Qt.one = qp := ⟨_, rfl⟩
  rw [hqp] at HC1 HC2 HX
  clear h h4 h5 h6 h7 hRk hRp hbb hFl hD hlen hkl hDp hnd hlv hq hq1 hle hmk hmp hr hp hrs1 hqp
  go_enter Try.func34, Try.ntmps34
  go_wp2_with fail
  refine HG1.out.mono ?_
  rintro e1 w1 ⟨rfl, rfl⟩
  go_upto_region 6 with fail
  go_quiet (first | (go_at_call 29; exact Calls.quiet_of_same (HG2.out _)))
  go_upto_region 7 with fail
  obtain ⟨w2, hw2⟩ : ∃ w2, w2 = (w1.drewN nq).drew := ⟨_, rfl⟩
  have hb2 : Below w1.heap.size w1 w2 := by rw [hw2]; exact ⟨rfl, rfl, rfl, Nat.le_refl _, fun _ _ => rfl⟩
  have HH2 := hide (HH.out.below hb2)
  have HR2 := hide (HRk.out.keep (hb2.block bk HRk.out.lt))
  have HP2 := hide (HRp.out.keep (hb2.block bp HRp.out.lt))
  have HM2 : Hid (Mod F w1 w2) := hide (Mod.of_below hb2)
  clear HH HRk HRp HG1 HG2 c0 cp
  refine wp_region_held_drew (S := fun W => Rb W bk r) (by kernel_rfl) (by rw [← hw2]; exact HR2.out) (fun _ => ?_)
  rw [← hw2]
  clear hw2 hb2
  refine hd_take 0 (o := ⟨some 39, _, _, _, _, _⟩) (.pointer (some ⟨bp, 0, none⟩)) (by kernel_rfl) (by kernel_rfl) (by kernel_rfl) rfl (by rfl) (fun W hSw => by go_simp) (fun _ _ _ h => h) HR2.out ?_
  try simp only [Act.put, List.setIfInBounds_toArray, List.set_cons_zero, List.set_cons_succ]
  refine hd_take 1 (o := ⟨some 40, _, _, _, _, _⟩) (.pointer (some ⟨bp, 0, none⟩)) (by kernel_rfl) (by kernel_rfl) (by kernel_rfl) rfl (by rfl) (fun W hSw => by go_simp) (fun _ _ _ h => h) HR2.out ?_
  try simp only [Act.put, List.setIfInBounds_toArray, List.set_cons_zero, List.set_cons_succ]
  refine hd_take 2 (o := ⟨some 41, _, _, _, _, _⟩) (.pointer (some ⟨bp, 21, none⟩)) (by kernel_rfl) (by kernel_rfl) (by kernel_rfl) rfl (by rfl) (fun W hSw => by go_simp) (fun _ _ _ h => h) HR2.out ?_
  try simp only [Act.put, List.setIfInBounds_toArray, List.set_cons_zero, List.set_cons_succ]
  refine hd_take 3 (o := ⟨some 42, _, _, _, _, _⟩) (.pointer (some ⟨bk, 0, none⟩)) (by kernel_rfl) (by kernel_rfl) (by kernel_rfl) rfl (by rfl) (fun W hSw => by go_simp) (fun _ _ _ h => h) HR2.out ?_
  try simp only [Act.put, List.setIfInBounds_toArray, List.set_cons_zero, List.set_cons_succ]
  refine hd_take 4 (o := ⟨some 43, _, _, _, _, _⟩) (.pointer (some ⟨bk, 0, none⟩)) (by kernel_rfl) (by kernel_rfl) (by kernel_rfl) rfl (by rfl) (fun W hSw => by go_simp) (fun _ _ _ h => h) HR2.out ?_
  try simp only [Act.put, List.setIfInBounds_toArray, List.set_cons_zero, List.set_cons_succ]
  refine hd_take 5 (o := ⟨some 44, _, _, _, _, _⟩) (.pointer (some ⟨bk, 0, none⟩)) (by kernel_rfl) (by kernel_rfl) (by kernel_rfl) rfl (by rfl) (fun W hSw => by go_simp) (fun _ _ _ h => h) HR2.out ?_
  try simp only [Act.put, List.setIfInBounds_toArray, List.set_cons_zero, List.set_cons_succ]
  refine hd_take 6 (o := ⟨some 45, _, _, _, _, _⟩) (.pointer (some ⟨bk, 15, none⟩)) (by kernel_rfl) (by kernel_rfl) (by kernel_rfl) rfl (by rfl) (fun W hSw => by go_simp) (fun _ _ _ h => h) HR2.out ?_
  try simp only [Act.put, List.setIfInBounds_toArray, List.set_cons_zero, List.set_cons_succ]
  refine hd_take 7 (o := ⟨some 46, _, _, _, _, _⟩) (.agg #[.int .i64 r.qu.f, .int .i64 r.qu.e, .int .i64 r.qu.x]) (by kernel_rfl) (by kernel_rfl) (by kernel_rfl) rfl (by rfl) (fun W hSw => by have q0 := hSw.get (j := 15) rfl; have q1 := hSw.get (j := 16) rfl; have q2 := hSw.get (j := 17) rfl; go_simp) (fun _ _ _ h => h) HR2.out ?_
  try simp only [Act.put, List.setIfInBounds_toArray, List.set_cons_zero, List.set_cons_succ]
  refine hd_call 8 (o := ⟨some 47, _, _, _, _, _⟩) (by kernel_rfl) rfl (by rfl) (fun K hK => ?_)
  go_simp
  go_wp2_with (go_at_call 53; refine (HC1.out _).mono ?_; rintro e1 w3 ⟨rfl, hb3⟩)
  have HR3 := hide (HR2.out.keep (hb3.block bk HR2.out.lt))
  have HP3 := hide (HP2.out.keep (hb3.block bp HP2.out.lt))
  have HH3 := hide (HH2.out.below hb3)
  have HM3 : Hid (Mod F w1 w3) := hide (HM2.out.trans (Mod.of_below hb3))
  clear hb3 HR2 HP2 HH2 HM2
  refine hK _ _ HR3.out ?_
  clear hK K
  try simp only [Act.put, List.setIfInBounds_toArray, List.set_cons_zero, List.set_cons_succ]
  refine hd_call 9 (o := ⟨some 48, _, _, _, _, _⟩) (by kernel_rfl) rfl (by rfl) (fun K hK => ?_)
  go_simp
  go_wp2_with (go_at_call 57; refine (HC2.out _ HP3.out).mono ?_; rintro e1 w4 ⟨rfl, hr4, ha4⟩)
  have HR4 := hide (HR3.out.keep (ha4.block bk HR3.out.lt HBB.out))
  have hu := HH3.out.upd HM.out ha4.size ha4.block hr4
  rw [← HX.out] at hu
  have HH4 := hide hu
  have HM4 : Hid (Mod F w1 w4) := hide (HM3.out.trans (ha4.mod (HH3.out.own p bp HM.out).1))
  clear hr4 ha4 hu HR3 HP3 HH3 HM3
  refine hK _ _ HR4.out ?_
  clear hK K
  try simp only [Act.put, List.setIfInBounds_toArray, List.set_cons_zero, List.set_cons_succ]
  refine wpAnyH_done (by kernel_rfl) ?_ _
  clear HR4 HC1 HC2
  go_wp2_with fail
  refine (HW.out _ ⟨S, G, m, HH4.out⟩).mono ?_
  rintro e1 w5 ⟨v, rfl, hv, hb5⟩
  have HH5 := hide (HH4.out.below hb5)
  have HM5 : Hid (Mod F w1 w5) := hide (HM4.out.trans (Mod.of_below hb5))
  have HV5 := hide (own_low hv HM4.out.size)
  obtain ⟨va, vc, rfl⟩ := own_shape hv
  clear hv hb5 HH4 HM4 HW
  generalize hl : wk rs1 n k = l at *
  obtain ⟨L, hL⟩ : ∃ L, l.length = L := ⟨_, rfl⟩
  have hL9 := HLen.out
  rw [hL] at HV5 hL9 ⊢
  have hL9 : L ≤ 4096 := hL9
  go_upto_region 10 with fail
  have K0 : Hid (∃ m', EtAt w5 F T S G m' (drops rs1 (l.take 0)) last) := hide ⟨m, HH5.out⟩
  go_loopw [54] (fun x wr => ∃ j : Nat, j ≤ L ∧ x = .int .i64 (j : Int) ∧ Hid (∃ m', EtAt wr F T S G m' (drops rs1 (l.take j)) last) ∧ Hid (wr.ownsRow w1.heap.size 3 1 (.slice va L vc) L (numN l)) ∧ Hid (Mod F w1 wr)) (fun x _ => L - (intOf x).toNat)
  case atStart => exact ⟨0, by omega, rfl, K0, HV5, HM5⟩
  case round =>
  clear K0 HV5 HM5 HH5
  obtain ⟨j, hj, rfl, KE, KV, KM⟩ := hrel
  by_cases hlt : j < L
  · have hd : decide ((j : Int) < (L : Int)) = true := by simp; omega
    have hj3 : (j : Int) < (L : Int) := by omega
    obtain ⟨m', hE⟩ := KE.out
    obtain ⟨c, hc⟩ : ∃ c, l[j]? = some c := ⟨_, List.getElem?_eq_getElem (by omega)⟩
    obtain ⟨g, rfl, hcc⟩ : ∃ g, va = some ⟨g, 0, none⟩ ∧ wr.cell? ⟨g, j, none⟩ = some (.int .i64 (c : Int)) := by
      have h9 := KV.out
      obtain ⟨_, ⟨h0, _⟩ | ⟨g, cp, cur, h0, _⟩⟩ := KV.out
      · injection h0 with _ h8 _; omega
      · cases h0
        refine ⟨g, rfl, ?_⟩
        have := World.ownsRow.cells h9 rfl j (.int .i64 (c : Int)) (by simp [numN, hc])
        rw [add0] at this
        exact this
    have htk : l.take (j + 1) = l.take j ++ [c] := by
      have h9 := (List.getElem?_eq_some_iff.1 hc)
      rw [List.take_succ_eq_append_getElem h9.1, h9.2]
    have hnm : c ∉ l.take j := by
      intro h9
      have h8 : (l.take (j + 1)).Nodup := HND.out.sublist (List.take_sublist _ _)
      rw [htk, List.nodup_append] at h8
      exact h8.2.2 c h9 c (by simp) rfl
    obtain ⟨rc, hrc⟩ := HLV.out c (List.mem_of_getElem? hc)
    have hdc : (drops rs1 (l.take j))[c]? = some (some rc) := by rw [drops_other _ _ _ hnm]; exact hrc
    have hc16 : c < 16 := by
      have h9 := (List.getElem?_eq_some_iff.1 hdc).1
      rw [hE.rlen] at h9; exact h9
    rcases hE.cases (c : Int) with ⟨_, h1⟩ | ⟨c', bc, rc', e2, hmc, h3, h6, h7, hRc⟩
    · rw [look_nat, hdc] at h1; cases h1
    obtain rfl : c = c' := by omega
    have c0 := hE.cell.1
    have HDr := hide (dropL_some wr G S m' hE.tab c bc hmc)
    have HEs := hide (fun w' (ht : Tab KL w' G S (m'.set c none)) hx => hE.shut hc16 ht hx)
    have HFG := hide hE.fG
    have hg9 : w1.heap.size ≤ g := (World.ownsRow.lt KV.out g rfl).1
    have HTk := hide htk
    clear hE h3 h6 h7 hRc hmc hdc hrc hnm htk hc KE
    go_wp2_with fail
    refine HDr.out.mono ?_
    rintro e1 w6 ⟨rfl, ht6, hx6⟩
    have K1 : Hid (∃ m', EtAt w6 F T S G m' (drops rs1 (l.take (j + 1))) last) := hide ⟨_, by
      have h9 := HEs.out w6 ht6 hx6
      rw [← drops_snoc, ← HTk.out] at h9
      exact h9⟩
    have hm6 : Mod F wr w6 := ⟨hx6.mod.os, hx6.mod.tape, hx6.mod.output, hx6.mod.size, fun b hb hf => hx6.mod.block b hb (fun e => hf (HFG.out b e).1)⟩
    have K2 : Hid (w6.ownsRow w1.heap.size 3 1 (.slice (some ⟨g, 0, none⟩) L vc) L (numN l)) := hide (by
      obtain ⟨q1, ⟨q2, q3⟩ | ⟨g', cp', cur', q2, q3, q4, q5⟩⟩ := KV.out
      · cases q2
      · cases q2
        refine ⟨q1, .inr ⟨g, vc, cur', rfl, q3, ?_, q5⟩⟩
        exact (hm6.block g (Array.getElem?_eq_some_iff.1 q4).1 (fun e => by have := HFl.out g e; omega)).trans q4)
    have K3 : Hid (Mod F w1 w6) := hide (KM.out.trans hm6)
    clear ht6 hx6 hm6 HDr HEs HFG KV KM HTk c0 hcc
    go_wp2
    go_roundw
    case rel =>
      first
        | exact ⟨j + 1, by omega, by go_num, K1, K2, K3⟩
        | ((repeat apply Exists.intro); refine ⟨?_, rfl⟩; exact ⟨j + 1, by omega, by go_num, K1, K2, K3⟩)
    case measure => simp [intOf]; omega
  · obtain rfl : j = L := by omega
    have hd : decide ((j : Int) < (j : Int)) = false := by simp
    obtain ⟨m', hE⟩ := KE.out
    rw [← hL, List.take_length] at hE
    have KF := hide hE
    have HL2 := hide hL
    clear hE KE
    go_wp2
    go_ret2
    exact ⟨_, rfl, ⟨S, G, m', by rw [hl]; exact KF.out⟩, by rw [hl, HL2.out]; exact KV.out, KM.out⟩
end
end Go.Proofs.Ytoddadohmnaolab
