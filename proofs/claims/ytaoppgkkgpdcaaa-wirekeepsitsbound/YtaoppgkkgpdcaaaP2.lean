import Derived.Test.YtaoppgkkgpdcaaaP1
namespace Go.Proofs.Ytaoppgkkgpdcaaa
open Go.RowKit

/-- append to a row of the call's own, as one step of a region that draws -/
theorem step_append_own {P : Program} {ops : Array Oper} {o : Oper} {a : Act} {w : World} {K : Act → World → Prop} {Q : Exit → Act → World → Prop} {E : Prop}
    (hg : o.guard = none) (s x : Operand) (t : TypeId) (hop : o.op = Op.call { callee := Callee.builtin Builtin.append, args := #[s, x], argTypes := #[t, t] })
    (base : Nat) (e : TypeId) (i : TypeInfo) (z : Value) (size bytes : Nat) (h1 : P.underlying t = some (.slice e)) (h2 : P.info? e = some i) (h3 : i.zero = some z) (h4 : i.size = size) (h5 : i.bytes = bytes) (h6 : z.cells.size = size) (h7 : 0 < size)
    (v : Value) (n : Nat) (xs : List Value) (hs : a.eval s = v) (hown : w.ownsRow base e size v n xs)
    (ad : Addr) (m c : Nat) (news : List Value) (hx : a.eval x = .slice (some ad) m c) (hn : news.length = m * size) (hc : ∀ j u, news[j]? = some u → w.cell? (ad.add j) = some u) (h1c : ∀ u ∈ news, u.oneCell' = true)
    (b1 : n + m ≤ maxLen) (b2 : (n + m) * bytes ≤ 140737488355328) (hbase : base ≤ w.heap.size)
    (hK : ∀ v' w', w'.ownsRow base e size v' (n + m) (xs ++ news) → w.grownBy w' v.ownBlock → K (a.put o.dst v') w') :
    if Region.wanted o (yielded ops a.tmps) = true then Oper.wp P o a w K Q else E := by
  have hw : Region.wanted o (yielded ops a.tmps) = true := by simp [Region.wanted, hg]
  rw [if_pos hw]
  exact wp_append_own w s x t hop base e i z size bytes h1 h2 h3 h4 h5 h6 h7 v n xs hs hown ad m c news hx hn hc h1c b1 b2 hbase fun v' w' r1 r2 _ => hK v' w' r1 r2

theorem gt_false (a b : Int) (h : ¬ b < a) : decide (b < a) = false := by simp [h]
theorem gt_true (a b : Int) (h : b < a) : decide (b < a) = true := by simp [h]
set_option maxHeartbeats 400000 in
theorem takes_yes (w : World) (B : Nat) (v : Value) (n m L : Nat) (h : Wr w B v L 0) (hv : Ow w B v n) (hL : L ≤ 4096) (hm : n + m ≤ L) :
    Calls Try.prog 10 #[.pointer (some ⟨B, 0, none⟩), .int .i64 (m : Int)] w fun x w' => x = .returned (.bool true) ∧ w' = w.drew := by
  obtain ⟨ao, cap, rfl⟩ := hv.len
  obtain ⟨c0, c1, c2, c3, f0, f3⟩ := h.cells
  clear h hv
  have hd := gt_false (m : Int) ((L : Int) - n) (by omega)
  go_enter Try.func10, Try.ntmps10
  go_wp2
  go_region
  go_wp2
  go_ret
  exact ⟨rfl, rfl⟩
set_option maxHeartbeats 400000 in
theorem takes_no (w : World) (B : Nat) (v : Value) (n m L : Nat) (h : Wr w B v L 0) (hv : Ow w B v n) (_hL : L ≤ 4096) (hn : n ≤ L) (hm : L < n + m) (hm' : m ≤ 4096) :
    Calls Try.prog 10 #[.pointer (some ⟨B, 0, none⟩), .int .i64 (m : Int)] w fun x w' => x = .returned (.bool false) ∧ w' = (w.setCell ⟨B, 3, none⟩ (.int .i64 2)).drew := by
  obtain ⟨ao, cap, rfl⟩ := hv.len
  obtain ⟨c0, c1, c2, c3, f0, f3⟩ := h.cells
  have H := hide h
  clear h hv
  have hd := gt_true (m : Int) ((L : Int) - n) (by omega)
  go_enter Try.func10, Try.ntmps10
  go_wp2
  go_region
  go_wp2_with fail
  refine (fail_zero w.drew B _ L 2 H.out).mono ?_
  rintro e w' ⟨rfl, rfl⟩
  go_wp2
  go_ret
  exact ⟨rfl, rfl⟩
end Go.Proofs.Ytaoppgkkgpdcaaa
