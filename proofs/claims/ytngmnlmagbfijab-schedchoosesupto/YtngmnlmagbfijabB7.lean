import Derived.Test.YtngmnlmagbfijabB6
import Derived.Test.YtngmnlmagbfijabA0
namespace Go.Proofs.Ytngmnlmagbfijab
open Go.RowKit
/-- the way's type -/
def wayT (k : Nat) : TypeId := if k = 1 then 76 else if k = 2 then 79 else 82
/-- the way at block q, beside the weights at m -/
def WayAt (w : World) (X : Nat → Prop) (m q n : Nat) (s : Pl) : Prop :=
  (s.kind = 1 ∧ w.heap[q]? = some (.cells #[.int .i64 s.last] 78 (0, 0))) ∨
  (s.kind = 2 ∧ ∃ pm, w.heap[q]? = some (.cells #[.map (some pm), .int .i64 s.last] 81 (0, 0)) ∧ Mp w pm n s.ps ∧ X pm ∧ pm ≠ m) ∨
  (s.kind = 3 ∧ ∃ mo, w.heap[q]? = some (.cells #[.map mo] 84 (0, 0)) ∧ ((mo = none ∧ ∀ k, s.ps k = none) ∨ ∃ pm, mo = some pm ∧ Mp w pm n s.ps ∧ X pm ∧ pm ≠ m))
structure PlM (w : World) (X : Nat → Prop) (g m q n : Nat) (s : Pl) : Prop where
  top : w.heap[g]? = some (.cells #[.map (some m), .iface (wayT s.kind) (.pointer (some ⟨q, 0, none⟩))] 55 (0, 0))
  wts : Mp w m n s.wt
  way : WayAt w X m q n s
  xg : X g
  xm : X m
  xq : X q
  lt : ∀ b, X b → b < w.heap.size
  ok : Okp n s
/-- a plan at block g, its blocks among X -/
def PlAt (w : World) (X : Nat → Prop) (g n : Nat) (s : Pl) : Prop := ∃ m q, PlM w X g m q n s
section
variable {w w' : World} {X : Nat → Prop} {g m q n : Nat} {s : Pl}
theorem PlM.keep (h : PlM w X g m q n s) (hs : w.heap.size ≤ w'.heap.size) (hk : ∀ b, X b → w'.heap[b]? = w.heap[b]?) : PlM w' X g m q n s := by
  refine ⟨by rw [hk g h.xg]; exact h.top, h.wts.keep (hk m h.xm), ?_, h.xg, h.xm, h.xq, fun b hb => Nat.lt_of_lt_of_le (h.lt b hb) hs, h.ok⟩
  rcases h.way with ⟨h1, h2⟩ | ⟨h1, pm, h2, h3, h4, h5⟩ | ⟨h1, mo, h2, h3⟩
  · exact .inl ⟨h1, by rw [hk q h.xq]; exact h2⟩
  · exact .inr (.inl ⟨h1, pm, by rw [hk q h.xq]; exact h2, h3.keep (hk pm h4), h4, h5⟩)
  · refine .inr (.inr ⟨h1, mo, by rw [hk q h.xq]; exact h2, ?_⟩)
    rcases h3 with h3 | ⟨pm, h3, h4, h5, h6⟩
    · exact .inl h3
    · exact .inr ⟨pm, h3, h4.keep (hk pm h5), h5, h6⟩
theorem PlAt.keep (h : PlAt w X g n s) (hs : w.heap.size ≤ w'.heap.size) (hk : ∀ b, X b → w'.heap[b]? = w.heap[b]?) : PlAt w' X g n s := by
  obtain ⟨m, q, h⟩ := h; exact ⟨m, q, h.keep hs hk⟩
theorem PlAt.lt (h : PlAt w X g n s) : ∀ b, X b → b < w.heap.size := by
  obtain ⟨m, q, h⟩ := h; exact h.lt
theorem PlAt.ok (h : PlAt w X g n s) : Okp n s := by
  obtain ⟨m, q, h⟩ := h; exact h.ok
theorem PlAt.below (h : PlAt w X g n s) (hb : Below w.heap.size w w') : PlAt w' X g n s := h.keep hb.size (fun b hb' => hb.block b (h.lt b hb'))
end
section
variable (w : World)
theorem tset_any (q : Nat) (k v : Int) : Calls Try.prog 73 #[.pointer (some ⟨q, 0, none⟩), .int .i64 k, .int .i64 v] w fun e w' => e = .returned (.tuple #[]) ∧ w' = w := by
  go_enter Try.func73, Try.ntmps73
  go_wp2
  go_end0
  exact ⟨rfl, rfl⟩
theorem rset_any (q : Nat) (k v : Int) : Calls Try.prog 85 #[.pointer (some ⟨q, 0, none⟩), .int .i64 k, .int .i64 v] w fun e w' => e = .returned (.tuple #[]) ∧ w' = w := by
  go_enter Try.func85, Try.ntmps85
  go_wp2
  go_end0
  exact ⟨rfl, rfl⟩
theorem tpass_any (q : Nat) (k l : Int) (hq : w.heap[q]? = some (.cells #[.int .i64 l] 78 (0, 0))) : Calls Try.prog 72 #[.pointer (some ⟨q, 0, none⟩), .int .i64 k] w fun e w' => e = .returned (.int .i64 (if k = l then 1 else 0)) ∧ w' = w := by
  have c0 := cell_of_row _ _ 0 _ _ _ hq
  simp only [List.getElem?_toArray, List.getElem?_cons_zero] at c0
  by_cases h : k = l
  · subst h
    go_enter Try.func72, Try.ntmps72
    go_wp2
    go_ret
    exact ⟨by simp, rfl⟩
  · go_enter Try.func72, Try.ntmps72
    have h2 : (k == l) = false := by simpa using h
    go_wp2
    go_ret
    exact ⟨by simp, rfl⟩
theorem spass_any (q pm n : Nat) (k l : Int) (f : Int → Option Int) (hq : w.heap[q]? = some (.cells #[.map (some pm), .int .i64 l] 81 (0, 0))) (hM : Mp w pm n f) : Calls Try.prog 77 #[.pointer (some ⟨q, 0, none⟩), .int .i64 k] w fun e w' => e = .returned (.int .i64 (val f k)) ∧ w' = w := by
  have c0 := cell_of_row _ _ 0 _ _ _ hq
  simp only [List.getElem?_toArray, List.getElem?_cons_zero] at c0
  have hl := hM.look1 k
  clear hM hq
  go_enter Try.func77, Try.ntmps77
  go_wp2
  go_ret
  exact ⟨rfl, rfl⟩
theorem rpass_any (q : Nat) (mo : Option Nat) (k u : Int) (hq : w.heap[q]? = some (.cells #[.map mo] 84 (0, 0))) (hl : (Instr.lookup 53 (.map mo) (.int .i64 k) false).run Try.prog w = .ok (.int .i64 u) w) : Calls Try.prog 84 #[.pointer (some ⟨q, 0, none⟩), .int .i64 k] w fun e w' => e = .returned (.int .i64 u) ∧ w' = w := by
  have c0 := cell_of_row _ _ 0 _ _ _ hq
  simp only [List.getElem?_toArray, List.getElem?_cons_zero] at c0
  clear hq
  go_enter Try.func84, Try.ntmps84
  go_wp2
  go_ret
  exact ⟨rfl, rfl⟩
theorem quo_stp {v : Int} (h : 1 ≤ v) (h2 : v ≤ 8) : Int.tdiv 840 v = stp v := by
  unfold stp
  have : v = 1 ∨ v = 2 ∨ v = 3 ∨ v = 4 ∨ v = 5 ∨ v = 6 ∨ v = 7 ∨ v = 8 := by omega
  rcases this with h | h | h | h | h | h | h | h <;> subst h <;> decide
set_option maxHeartbeats 1000000 in
theorem sset_any (q pm n : Nat) (k v l : Int) (f : Int → Option Int) (hq : w.heap[q]? = some (.cells #[.map (some pm), .int .i64 l] 81 (0, 0))) (hM : Mp w pm n f) (h1 : 1 ≤ v) (h2 : v ≤ 8) (hl0 : 0 ≤ l) (hl1 : l ≤ 4611686018427387904) :
    Calls Try.prog 78 #[.pointer (some ⟨q, 0, none⟩), .int .i64 k, .int .i64 v] w fun e w' => e = .returned (.tuple #[]) ∧ ∃ (t : Nat) (es : Array MapEntry) (ck : Nat), w' = (w.drewN t).putObj pm (.map es ck) ∧ Mp w' pm (n + 1) (upd f k (min (val f k) (l + stp v))) := by
  have c0 := cell_of_row _ _ 0 _ _ _ hq
  have c1 := cell_of_row _ _ 1 _ _ _ hq
  simp only [List.getElem?_toArray, List.getElem?_cons_zero, List.getElem?_cons_succ] at c0 c1
  have hb := stp_bd h1 h2
  have hqs := quo_stp h1 h2
  have HM := hide hM
  clear hM hq
  go_enter Try.func78, Try.ntmps78
  have HD := HM.out.keep (w' := w.drew) rfl
  have hlk := HD.look1 k
  obtain ⟨es, ck, hput, hM2, _⟩ := HD.put k (min (val f k) (l + stp v))
  have HM2 := hide hM2
  have hv : (f k).getD 0 = val f k := rfl
  rw [hv] at hlk
  generalize val f k = u at *
  clear hM2 hv HD
  go_region
  go_end0
  exact ⟨rfl, 1, es, ck, rfl, HM2.out⟩
end
end Go.Proofs.Ytngmnlmagbfijab
