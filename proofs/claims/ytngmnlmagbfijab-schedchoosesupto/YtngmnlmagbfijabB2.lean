import Derived.RangeFuncNested
import Derived.RangeFuncBound
import Derived.RangeFuncCalls
import Derived.RangeFuncLeaves
import Derived.RangeFuncBox
import Derived.Shelf.Abstract
import Derived.Shelf.RegionOpen
import Derived.OwnWalkIn
import Derived.TacticsInMore
import Derived.LoopNIn
import Derived.LoopIn
import Derived.Maps.OwnIn
import Derived.Maps.AppendAt
import Derived.Sort.QuietTacIn
import Derived.RegionIn
import Derived.Test.YtngmnlmagbfijabB1
namespace Go.Proofs.Ytngmnlmagbfijab
open Go.RowKit Go.Shelf
attribute [local go_sem] Oper.semAt_some

/-- what a round that goes on keeps: these blocks -/
def KeepF (G : Nat → Prop) (W W' : World) : Prop := W.heap.size ≤ W'.heap.size ∧ ∀ b, G b → W'.heap[b]? = W.heap[b]?
theorem keepF_t {G : Nat → Prop} {A B C : World} (h : KeepF G A B) (k : KeepF G B C) : KeepF G A C := ⟨Nat.le_trans h.1 k.1, fun b hb => (k.2 b hb).trans (h.2 b hb)⟩
theorem keepF_b {G : Nat → Prop} {w : World} (hG : ∀ b, G b → b < w.heap.size) (W : World) (l : Nat) (o o' : Obj) (hl : w.heap.size ≤ l) (_ : W.heap[l]? = some o) (_ : o.isCells = false) (_ : o.isWalk = false) : KeepF G W (W.putObj l o') :=
  ⟨by simp, fun b hb => World.putObj_heap_other (fun e => by have := hG b hb; omega)⟩
theorem keepsOthers_below {W W' : World} (h : Below W.heap.size W W') : KeepsOthers W W' := ⟨h.size, fun k _ hk _ => (h.block k (Array.getElem?_eq_some_iff.1 hk).1).trans hk⟩
theorem boxed_below {w w' : World} {B : Nat} {t : TypeId} {v : Value} (h : Boxed w B t v) (hb : Below w.heap.size w w') : Boxed w' B t v := (hb.block B h.lt).trans h
theorem own_low {w : World} {base base' : Nat} {e : TypeId} {size : Nat} {v : Value} {n : Nat} {xs : List Value} (h : w.ownsRow base e size v n xs) (hb : base' ≤ base) : w.ownsRow base' e size v n xs := by
  obtain ⟨h1, h2 | ⟨g, cap, cur, h2, h3, h4, h5⟩⟩ := h
  · exact ⟨h1, .inl h2⟩
  · exact ⟨h1, .inr ⟨g, cap, cur, h2, Nat.le_trans hb h3, h4, h5⟩⟩

theorem values_in (ao : Option Addr) (m cap : Nat) (n : Nat) (w : World) :
    CallsIn Fence.wide n Try.prog 22 #[.slice ao m cap] w fun e w' => e = .returned (.func (.func 32) #[] #[.pointer (some ⟨w.heap.size, 0, none⟩)]) ∧ w' = w.alloc (.cells #[.slice ao m cap] 31) := by
  refine callsIn_of_wp Try.func22 rfl trivial ?_ rfl
  simp only [Try.ntmps22, List.size_toArray, List.length_cons, List.length_nil, Nat.reduceAdd, Nat.reduceSub, Array.replicate_succ, Array.replicate_zero, List.push_toArray, List.append_toArray, List.nil_append, List.cons_append]
  gi_wp2
  go_ret
  exact ⟨rfl, rfl⟩
set_option maxRecDepth 8000 in
set_option maxHeartbeats 1600000 in
theorem values1_in (n : Nat) (hn : 1 ≤ n) (l Bn : Nat) (S : Nat → Prop) (v : Value) (zs : List Int) (hlen : zs.length ≤ 1048576) (J Jx : List Int → World → Prop)
    (hY : ∀ pre x W, J pre W → pre.length < zs.length → YieldAt Fence.wide (n - 1) Try.prog l #[.int .i64 x] W fun e W' =>
      (e = .returned (.bool true) ∧ J (pre ++ [x]) W' ∧ KeepF S W W') ∨ (e = .returned (.bool false) ∧ Jx (pre ++ [x]) W'))
    (W : World) (hBn : W.heap[Bn]? = some (.cells #[v] 31 (0, 0))) (hR : Rd S W v zs) (h0 : J [] W) :
    CallsIn Fence.wide n Try.prog 32 #[.func (.yield l) #[] #[], .pointer (some ⟨Bn, 0, none⟩)] W fun e W' => (∃ v, e = .returned v) ∧
      ((∃ ys, ys = zs ∧ J ys W') ∨ (∃ pre, pre <+: zs ∧ Jx pre W')) := by
  have HY := hide hY
  have HR := hide hR
  have H0 := hide h0
  have c0 := cell_of_row _ _ 0 _ _ _ hBn
  simp only [List.getElem?_toArray, List.getElem?_cons_zero] at c0
  obtain ⟨ao, cap, rfl, hcap⟩ := hR.len
  obtain ⟨m, hm⟩ : ∃ m, zs.length = m := ⟨_, rfl⟩
  have HLn := hide hm
  rw [hm] at hlen hcap HR c0
  clear hY hR hBn h0 hm
  refine callsIn_of_wp Try.func32 rfl trivial ?_ rfl
  simp only [Try.ntmps32, List.size_toArray, List.length_cons, List.length_nil, Nat.reduceAdd, Nat.reduceSub, Array.replicate_succ, Array.replicate_zero, List.push_toArray, List.append_toArray, List.nil_append, List.cons_append]
  gi_wp2
  gi_loopw [7] (fun p wr => ∃ (k : Nat) (pre : List Int), p = .int .i64 (k : Nat) ∧ k ≤ m ∧ Hid (pre = zs.take k) ∧ Hid (J pre wr) ∧ Hid (Rd S wr (.slice ao m cap) zs)) (fun p _ => m - (RowKit.intOf p).toNat)
  case atStart => exact ⟨0, [], rfl, by omega, hide (by simp), H0, HR⟩
  case round =>
    obtain ⟨k, pre, rfl, hk, HP, HJ, HR1⟩ := hrel
    clear HR H0
    by_cases hlt : k < m
    · obtain ⟨x, rfl, hS, hc⟩ := HR1.out.some_of (by rw [HLn.out]; omega)
      have hc1 := hc k (by rw [HLn.out]; omega)
      clear hc
      have hpl : pre.length = k := by rw [HP.out, List.length_take, HLn.out]; omega
      obtain ⟨z, hz⟩ : ∃ z, zs.getD k 0 = z := ⟨_, rfl⟩
      have HPz : Hid (pre ++ [z] = zs.take (k + 1)) := hide (by
        have hk' : k < zs.length := by rw [HLn.out]; omega
        rw [HP.out, ← hz, List.getD_eq_getElem?_getD, List.getElem?_eq_getElem hk', Option.getD_some, List.take_succ_eq_append_getElem hk'])
      rw [hz] at hc1
      obtain ⟨fn, tmps, assign, body, hy, hR⟩ := HY.out pre z wr HJ.out (by rw [hpl, HLn.out]; exact hlt)
      have HR := hide hR
      have hki : (k : Int) < m := by omega
      clear hR hz hS hpl
      gi_wp2_with fail
      refine HR.out.mono ?_
      clear HR hy hc1
      rintro e W3 (⟨rfl, hJ3, hk3⟩ | ⟨rfl, hJx3⟩)
      · have HR3 := hide (HR1.out.keep hk3.2)
        have HJ3 := hide hJ3
        clear hJ3 hk3 HR1 HJ HP
        gi_wp2
        go_roundw
        case rel => exact ⟨k + 1, pre ++ [z], by go_num, by omega, HPz, HJ3, HR3⟩
        case measure => simp [RowKit.intOf]; omega
      · have HX := hide hJx3
        clear hJx3
        gi_wp2
        refine bodyPost_ret (results_none rfl _ _ _) rfl ?_
        exact ⟨⟨_, rfl⟩, .inr ⟨_, by rw [HPz.out]; exact List.take_prefix _ _, HX.out⟩⟩
    · obtain rfl : k = m := by omega
      gi_wp2
      go_end0
      exact ⟨⟨_, rfl⟩, .inl ⟨pre, by rw [HP.out, ← HLn.out, List.take_length], HJ.out⟩⟩
end Go.Proofs.Ytngmnlmagbfijab
