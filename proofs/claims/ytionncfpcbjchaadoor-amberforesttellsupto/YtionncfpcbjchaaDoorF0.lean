import Derived.Test.YtionncfpcbjchaaDoorRows
import Derived.Test.YtionncfpcbjchaaDoorSI
import Derived.WalkKit
import Derived.Handy
import Derived.WalkSpells
import Derived.WalkLawsBesides
import Derived.Deep.RegionLaw
import Derived.Deep.RegionHeld
import Derived.Deep.WholeRow
import Derived.Deep.MidRow
import Derived.Deep.Cut
import Derived.Laws.OwnMore
import Derived.Laws.AppendOwnNone
import Derived.Laws.StructEq
import Derived.Laws.BitsAllLaws
import Derived.Lib.AppendStr
import Derived.Lib.ItoaLen
import Derived.BigQuiet
import Derived.Below
namespace Go.Proofs.YtionncfpcbjchaaDoor
open Go.RowKit

theorem hide {p : Prop} (h : p) : Hid p := h
theorem add0 (g j : Nat) : (⟨g, 0, none⟩ : Addr).add j = ⟨g, j, none⟩ := by unfold Addr.add; split <;> simp_all
theorem cell_lt {w : World} {p : Addr} {v : Value} (h : w.cell? p = some v) : p.block < w.heap.size := by
  by_cases hb : p.block < w.heap.size
  · exact hb
  · rw [World.cell?] at h
    simp [Array.getElem?_eq_none (show w.heap.size ≤ p.block by omega)] at h
/-- block g is one value of type T -/
structure Blk (w : World) (g : Nat) (T : TypeId) (vs : List Value) : Prop where
  out : w.heap[g]? = some (.cells vs.toArray T (0, 0))
/-- the world with another value in a block -/
def putB (w : World) (g : Nat) (vs : List Value) (T : TypeId) : World := { w with heap := w.heap.setIfInBounds g (.cells vs.toArray T (0, 0)) }
section
variable {w w' : World} {g : Nat} {T : TypeId} {vs : List Value}
theorem Blk.get (h : Blk w g T vs) {j : Nat} {v : Value} (hv : vs[j]? = some v) : w.cell? ⟨g, j, none⟩ = some v := by
  rw [cell_of_row _ _ _ _ _ _ h.out]; simpa using hv
theorem Blk.lt (h : Blk w g T vs) : g < w.heap.size := (Array.getElem?_eq_some_iff.1 h.out).1
theorem Blk.frz (h : Blk w g T vs) (j : Nat) : w.frozen? ⟨g, j, none⟩ = false := Lib.frozen_of_heap h.out j
theorem Blk.keep (h : Blk w g T vs) (hk : w'.heap[g]? = w.heap[g]?) : Blk w' g T vs := ⟨hk.trans h.out⟩
theorem Blk.below (h : Blk w g T vs) {B : Nat} (hb : Below B w w') (hg : g < B) : Blk w' g T vs := ⟨(hb.block g hg).trans h.out⟩
theorem Blk.new (w : World) (vs : List Value) (T : TypeId) : Blk (w.alloc (.cells vs.toArray T)) w.heap.size T vs := ⟨heap_alloc_new _ _⟩
theorem Blk.cells (h : Blk w g T vs) : ∀ (j : Nat) (v : Value), vs[j]? = some v → w.cell? ((⟨g, 0, none⟩ : Addr).add j) = some v := fun j v hv => by rw [add0]; exact h.get hv
theorem Blk.set (h : Blk w g T vs) (j : Nat) (v : Value) : Blk (w.setCell ⟨g, j, none⟩ v) g T (vs.set j v) := ⟨by
  rw [heap_setCell_same w g j _ _ _ h.out]; simp⟩
theorem Blk.put (h : Blk w g T vs) (us : List Value) : Blk (putB w g us T) g T us := ⟨by
  simp [putB, h.lt]⟩
end
theorem putB_other (w : World) (g : Nat) (vs : List Value) (T : TypeId) {b : Nat} (hb : b ≠ g) : (putB w g vs T).heap[b]? = w.heap[b]? := by
  simp only [putB, Array.getElem?_setIfInBounds]
  rw [if_neg (by omega)]
theorem putB_size (w : World) (g : Nat) (vs : List Value) (T : TypeId) : (putB w g vs T).heap.size = w.heap.size := by simp [putB]
theorem putB_below {B : Nat} {w v : World} (h : Below B w v) {g : Nat} (hg : B ≤ g) (vs : List Value) (T : TypeId) : Below B w (putB v g vs T) :=
  ⟨h.os, h.tape, h.output, by rw [putB_size]; exact h.size, fun k hk => by rw [putB_other _ _ _ _ (by omega)]; exact h.block k hk⟩
theorem putB_put (w : World) (g : Nat) (vs us : List Value) (T : TypeId) : putB (putB w g vs T) g us T = putB w g us T := by
  simp [putB]
theorem putB_self {w : World} {g : Nat} {T : TypeId} {vs : List Value} (h : w.heap[g]? = some (.cells vs.toArray T (0, 0))) : putB w g vs T = w := by
  have hl := (Array.getElem?_eq_some_iff.1 h).1
  have : w.heap.setIfInBounds g (.cells vs.toArray T (0, 0)) = w.heap := by
    apply Array.ext_getElem?
    intro i
    rw [Array.getElem?_setIfInBounds]
    by_cases e : g = i
    · subst e; rw [if_pos rfl, if_pos hl, h]
    · rw [if_neg e]
  unfold putB
  rw [this]
theorem setCell_put {w : World} {g : Nat} {T : TypeId} {cs : List Value} (h : w.heap[g]? = some (.cells cs.toArray T (0, 0))) (o : Nat) (v : Value) : w.setCell ⟨g, o, none⟩ v = putB w g (cs.set o v) T := by
  unfold World.setCell putB
  congr 1
  apply Array.ext_getElem?
  intro i
  rw [Array.getElem?_modify, Array.getElem?_setIfInBounds]
  by_cases e : g = i
  · subst e
    obtain ⟨hl, hq⟩ := Array.getElem?_eq_some_iff.1 h
    simp [hl, hq]
  · rw [if_neg e, if_neg e]
theorem set_gen (g : Nat) (T : TypeId) : ∀ (vs : List Value) (o : Nat) (w : World) (cs : List Value), w.heap[g]? = some (.cells cs.toArray T (0, 0)) → o + vs.length ≤ cs.length → w.setCells g o vs = putB w g (cs.take o ++ vs ++ cs.drop (o + vs.length)) T
  | [], o, w, cs, h, _ => by
    simp only [World.setCells, List.append_nil, List.length_nil, Nat.add_zero, List.take_append_drop]
    exact (putB_self h).symm
  | v :: r, o, w, cs, h, hl => by
    simp only [List.length_cons] at hl
    have hlt := (Array.getElem?_eq_some_iff.1 h).1
    rw [World.setCells, setCell_put h o v, set_gen g T r (o + 1) _ (cs.set o v) (by simp [putB, hlt]) (by simp; omega), putB_put]
    congr 1
    have e1 : (cs.set o v).take (o + 1) = cs.take o ++ [v] := by
      rw [List.take_succ_eq_append_getElem (by simp; omega)]
      simp [List.take_set_of_le]
    have e2 : (cs.set o v).drop (o + 1 + r.length) = cs.drop (o + (r.length + 1)) := by
      rw [List.drop_set_of_lt (by omega), show o + 1 + r.length = o + (r.length + 1) by omega]
    rw [e1, e2]
    simp
theorem set_all (w : World) (g : Nat) (T : TypeId) (cs vs : List Value) (hc : w.heap[g]? = some (.cells cs.toArray T (0, 0))) (hl : cs.length = vs.length) : w.setCells g 0 vs = putB w g vs T := by
  rw [set_gen g T vs 0 w cs hc (by omega)]
  simp [← hl]
/-- a store of a whole block -/
theorem storeB {t : TypeId} (vs : List Value) (hi : (Tryd.prog.info? t).map (·.size) = some vs.length) (h1 : vs.all (fun u => u.oneCell') = true) {ops : Array Oper} {rest : List Oper} {op : Oper} {a : Act} {w : World} {Q : Exit → Act → World → Prop} (hw : Region.wanted op (yielded ops a.tmps) = true) (x y : Operand) (ho : op.op = .store t x y) (N : Nat)
    (hx : a.eval x = .pointer (some ⟨N, 0, none⟩)) (hy : a.eval y = .agg vs.toArray) {T : TypeId} (cs : List Value) (hc : Blk w N T cs) (hl : cs.length = vs.length) (h : wpList Tryd.prog ops Q rest (a.put op.dst undef) (putB w N vs T)) : wpList Tryd.prog ops Q (op :: rest) a w :=
  BigFrame.wpList_want hw fun _ hK => wp_store_mid t x y ho N 0 vs.toArray hx hy (fun j hj => by
    rw [List.size_toArray] at hj
    refine ⟨?_, hc.frz _⟩
    rw [cell_of_row _ _ _ _ _ _ hc.out]
    have hlt : j < cs.length := by omega
    simp [hlt]) (by rw [List.size_toArray]; exact hi) (all_oneCell_toArray (by simpa using h1)) (hK _ _ (by rw [set_all w N T cs vs hc.out hl]; exact h))

abbrev Tx := List UInt8
def By (c : UInt8) : Value := .int .u8 (c.toNat : Int)
def In (z : Int) : Value := .int .i64 z
theorem str_cells (s : Tx) : Lib.strCells ⟨s.toArray⟩ = s.map By := by simp [Lib.strCells, By]
theorem str_size (s : Tx) : (⟨s.toArray⟩ : ByteArray).size = s.length := by simp [ByteArray.size]
theorem str_app (a b : Tx) : (⟨a.toArray⟩ : ByteArray) ++ (⟨b.toArray⟩ : ByteArray) = ⟨(a ++ b).toArray⟩ := by
  apply ByteArray.ext
  rw [ByteArray.data_append]
  simp
/-- a row of bytes of the call's own -/
def OwB (w : World) (base : Nat) (v : Value) (T : Tx) : Prop := w.ownsRow base 5 1 v T.length (T.map By)
/-- a row of numbers of the call's own -/
def OwI (w : World) (base : Nat) (v : Value) (L : List Int) : Prop := w.ownsRow base 3 1 v L.length (L.map In)
theorem OwB.len {w : World} {base : Nat} {v : Value} {T : Tx} (h : OwB w base v T) : ∃ a c, v = .slice a T.length c ∧ T.length ≤ c := by
  obtain ⟨_, ⟨h1, h2⟩ | ⟨g, cap, cur, h1, _, _, h3, _⟩⟩ := h
  · exact ⟨none, 0, by rw [h1, h2], by omega⟩
  · exact ⟨_, _, h1, h3⟩
theorem OwB.len2 {w : World} {base : Nat} {v : Value} {T : Tx} (h : OwB w base v T) : ∃ a n c, v = .slice a n c ∧ Hid (T.length = n) ∧ n ≤ c := by
  obtain ⟨a, c, h1, h2⟩ := h.len
  exact ⟨a, _, c, h1, hide rfl, h2⟩
theorem OwI.len {w : World} {base : Nat} {v : Value} {L : List Int} (h : OwI w base v L) : ∃ a c, v = .slice a L.length c ∧ L.length ≤ c := by
  obtain ⟨_, ⟨h1, h2⟩ | ⟨g, cap, cur, h1, _, _, h3, _⟩⟩ := h
  · exact ⟨none, 0, by rw [h1, h2], by omega⟩
  · exact ⟨_, _, h1, h3⟩
theorem OwI.len2 {w : World} {base : Nat} {v : Value} {L : List Int} (h : OwI w base v L) : ∃ a n c, v = .slice a n c ∧ Hid (L.length = n) ∧ n ≤ c := by
  obtain ⟨a, c, h1, h2⟩ := h.len
  exact ⟨a, _, c, h1, hide rfl, h2⟩
theorem OwB.get {w : World} {base : Nat} {v : Value} {T : Tx} (h : OwB w base v T) {i : Nat} {c : UInt8} (hc : T[i]? = some c) : ∃ g cap, v = .slice (some ⟨g, 0, none⟩) T.length cap ∧ w.cell? ⟨g, i, none⟩ = some (By c) := by
  obtain ⟨h0, ⟨h1, h2⟩ | ⟨g, cap, cur, h1, _, hg, h3, _, h5, h6⟩⟩ := h
  · have : T = [] := List.eq_nil_of_length_eq_zero h2
    subst this; simp at hc
  · refine ⟨g, cap, h1, ?_⟩
    rw [cell_of_row _ _ _ _ _ _ hg]
    have e : (T.map By)[i]? = some (By c) := by simp [hc]
    rw [← h6, List.getElem?_take] at e
    split at e
    · rw [← Array.getElem?_toList]; exact e
    · simp at e
theorem own_keep {w w' : World} {base : Nat} {e : TypeId} {size : Nat} {v : Value} {n : Nat} {xs : List Value} (h : w.ownsRow base e size v n xs) (hk : ∀ b, v.ownBlock = some b → w'.heap[b]? = w.heap[b]?) : w'.ownsRow base e size v n xs := by
  obtain ⟨h1, h2 | ⟨g, cap, cur, h2, h3, h4, h5⟩⟩ := h
  · exact ⟨h1, .inl h2⟩
  · exact ⟨h1, .inr ⟨g, cap, cur, h2, h3, (hk g (by rw [h2]; rfl)).trans h4, h5⟩⟩
theorem OwB.up {w w' : World} {base : Nat} {v : Value} {T : Tx} (h : OwB w base v T) (hb : Below w.heap.size w w') : OwB w' base v T := own_keep h fun k hk => hb.block k (World.ownsRow.lt h k hk).2
theorem OwI.up {w w' : World} {base : Nat} {v : Value} {L : List Int} (h : OwI w base v L) (hb : Below w.heap.size w w') : OwI w' base v L := own_keep h fun k hk => hb.block k (World.ownsRow.lt h k hk).2
theorem OwB.mono {w : World} {base base' : Nat} {v : Value} {T : Tx} (h : OwB w base v T) (hb : base' ≤ base) : OwB w base' v T := by
  obtain ⟨h1, h2 | ⟨g, cap, cur, h2, h3, h4⟩⟩ := h
  · exact ⟨h1, .inl h2⟩
  · exact ⟨h1, .inr ⟨g, cap, cur, h2, Nat.le_trans hb h3, h4⟩⟩
theorem OwB.nil (w : World) (base : Nat) : OwB w base (.slice none 0 0) [] := ⟨rfl, .inl ⟨rfl, rfl⟩⟩
theorem OwI.nil (w : World) (base : Nat) : OwI w base (.slice none 0 0) [] := ⟨rfl, .inl ⟨rfl, rfl⟩⟩
theorem By_one (T : Tx) : ∀ u ∈ T.map By, u.oneCell' = true := by
  intro u hu; simp at hu; obtain ⟨n, _, rfl⟩ := hu; rfl
theorem In_one (L : List Int) : ∀ u ∈ L.map In, u.oneCell' = true := by
  intro u hu; simp at hu; obtain ⟨n, _, rfl⟩ := hu; rfl
/-- numbers that were laid by the call -/
def RdI (w : World) (v : Value) (L : List Int) : Prop := (v = .slice none 0 0 ∧ L = []) ∨ ∃ g cap cur f, v = .slice (some ⟨g, 0, none⟩) L.length cap ∧ L.length ≤ cap ∧ w.heap[g]? = some (.cells cur 3 f) ∧ ∀ (i : Nat) (z : Int), L[i]? = some z → cur[i]? = some (In z)
theorem RdI.len {w : World} {v : Value} {L : List Int} (h : RdI w v L) : ∃ a c, v = .slice a L.length c ∧ L.length ≤ c := by
  rcases h with ⟨rfl, rfl⟩ | ⟨g, cap, cur, f, h1, h2, _⟩
  · exact ⟨_, _, rfl, Nat.le_refl _⟩
  · exact ⟨_, _, h1, h2⟩
theorem RdI.get {w : World} {a : Option Addr} {n c : Nat} {L : List Int} (h : RdI w (.slice a n c) L) {i : Nat} {z : Int} (hz : L[i]? = some z) : ∃ g, a = some ⟨g, 0, none⟩ ∧ w.cell? ⟨g, i, none⟩ = some (In z) := by
  rcases h with ⟨h1, rfl⟩ | ⟨g, cap, cur, f, h1, h2, hg, hc⟩
  · simp at hz
  · cases h1
    exact ⟨g, rfl, by rw [Lib.cell_of_heap hg]; exact hc i z hz⟩
theorem OwI.rd {w : World} {base : Nat} {v : Value} {L : List Int} (h : OwI w base v L) : RdI w v L := by
  obtain ⟨h0, ⟨h1, h2⟩ | ⟨g, cap, cur, h1, _, hg, h3, _, h5, h6⟩⟩ := h
  · exact .inl ⟨h1, List.eq_nil_of_length_eq_zero h2⟩
  · refine .inr ⟨g, cap, cur, _, h1, h3, hg, fun i z hz => ?_⟩
    have e : (L.map In)[i]? = some (In z) := by simp [hz]
    rw [← h6, List.getElem?_take] at e
    split at e
    · rw [← Array.getElem?_toList]; exact e
    · simp at e
theorem RdI.new (w : World) (L : List Int) (n c : Nat) (hn : L.length = n) (hc : n ≤ c) : RdI (w.alloc (.cells (L.map In).toArray 3)) (.slice (some ⟨w.heap.size, 0, none⟩) n c) L :=
  .inr ⟨_, c, _, _, by rw [hn], by omega, heap_alloc_new _ _, fun i z hz => by simp [hz]⟩
/-- nothing below b is changed, of what is above it no block but rows of bytes -/
def Fr (b : Nat) (w w' : World) : Prop := Below b w w' ∧ ∀ k, k < w.heap.size → k ≠ b → (∀ cur f, w.heap[k]? ≠ some (.cells cur 5 f)) → w'.heap[k]? = w.heap[k]?
theorem Fr.refl (b : Nat) (w : World) : Fr b w w := ⟨Below.refl _ _, fun _ _ _ _ => rfl⟩
theorem Fr.trans {b : Nat} {x y z : World} (h : Fr b x y) (k : Fr b y z) : Fr b x z :=
  ⟨h.1.trans k.1, fun i hi hn hc => by
    have e := h.2 i hi hn hc
    rw [k.2 i (Nat.lt_of_lt_of_le hi h.1.size) hn (fun cur f => by rw [e]; exact hc cur f), e]⟩
theorem Fr.of {b : Nat} {w w' : World} (h : Below w.heap.size w w') (hb : b ≤ w.heap.size) : Fr b w w' := ⟨h.mono hb, fun k hk _ _ => h.block k hk⟩
theorem Fr.size {b : Nat} {w w' : World} (h : Fr b w w') : w.heap.size ≤ w'.heap.size := h.1.size
theorem RdI.up {w w' : World} {v : Value} {L : List Int} (h : RdI w v L) (hb : Below w.heap.size w w') : RdI w' v L := by
  rcases h with h | ⟨g, cap, cur, f, h1, h2, hg, hc⟩
  · exact .inl h
  · exact .inr ⟨g, cap, cur, f, h1, h2, (hb.block g (Array.getElem?_eq_some_iff.1 hg).1).trans hg, hc⟩
/-- a sheet at block b that holds a text -/
def Sh (w : World) (b : Nat) (T : Tx) : Prop := ∃ v, w.heap[b]? = some (.cells #[v] 52 (0, 0)) ∧ OwB w (b + 1) v T
theorem Sh.lt {w : World} {b : Nat} {T : Tx} (h : Sh w b T) : b < w.heap.size := by
  obtain ⟨v, h1, _⟩ := h
  exact (Array.getElem?_eq_some_iff.1 h1).1
theorem Sh.up {w w' : World} {b : Nat} {T : Tx} (h : Sh w b T) (hb : Below w.heap.size w w') : Sh w' b T := by
  have hl := h.lt
  obtain ⟨v, h1, h2⟩ := h
  exact ⟨v, (hb.block b hl).trans h1, h2.up hb⟩
theorem RdI.fr {w w' : World} {b : Nat} {T : Tx} {v : Value} {L : List Int} (h : RdI w v L) (hs : Sh w b T) (hf : Fr b w w') : RdI w' v L := by
  obtain ⟨u, hu, _⟩ := hs
  rcases h with h | ⟨g, cap, cur, f, h1, h2, hg, hc⟩
  · exact .inl h
  · refine .inr ⟨g, cap, cur, f, h1, h2, (hf.2 g (Array.getElem?_eq_some_iff.1 hg).1 (fun e => ?_) (fun cur' f' e => ?_)).trans hg, hc⟩
    · subst e; rw [hu] at hg; cases hg
    · rw [hg] at e; cases e
theorem Blk.fr {w w' : World} {b g : Nat} {T : TypeId} {vs : List Value} (h : Blk w g T vs) (hT : T ≠ 5) (hg : g ≠ b) (hf : Fr b w w') : Blk w' g T vs :=
  ⟨(hf.2 g h.lt hg (fun cur f e => by rw [h.out] at e; cases e; exact hT rfl)).trans h.out⟩
theorem sh_step {w w1 : World} {b : Nat} {v v' : Value} {T T' : Tx} (hb : w.heap[b]? = some (.cells #[v] 52 (0, 0))) (hO : OwB w (b + 1) v T) (hO' : OwB w1 (b + 1) v' T') (hg : w.grownBy w1 v.ownBlock) :
    Sh (w1.setCell ⟨b, 0, none⟩ v') b T' ∧ Fr b w (w1.setCell ⟨b, 0, none⟩ v') := by
  have hlow : ∀ k, v.ownBlock = some k → b + 1 ≤ k := fun k hk => (World.ownsRow.lt hO k hk).1
  have hbl : b < w.heap.size := (Array.getElem?_eq_some_iff.1 hb).1
  have h1 : w1.heap[b]? = some (.cells #[v] 52 (0, 0)) := (hg.block b hbl (fun e => by have := hlow b e.symm; omega)).trans hb
  refine ⟨⟨v', by rw [heap_setCell_same _ b 0 _ _ _ h1]; rfl, own_keep hO' fun k hk => ?_⟩, ?_, fun k hk hn hc => ?_⟩
  · have := (World.ownsRow.lt hO' k hk).1
    rw [heap_setCell_other _ _ _ _ (show k ≠ b by omega)]
  · have hB1 : Below b w w1 := ⟨hg.os, hg.tape, hg.output, hg.size, fun k hk => hg.block k (by omega) (fun e => by have := hlow k e.symm; omega)⟩
    exact hB1.setCell (p := ⟨b, 0, none⟩) (Nat.le_refl _) _
  · rw [heap_setCell_other _ _ _ _ hn]
    refine hg.block k hk (fun e => ?_)
    obtain ⟨_, ⟨h2, _⟩ | ⟨g, cap, cur, h2, _, h3, _⟩⟩ := hO
    · rw [h2] at e; cases e
    · rw [h2] at e; cases e
      exact hc _ _ h3
theorem info_b : ∃ i, Tryd.prog.info? 5 = some i ∧ i.zero = some (.int .u8 0) ∧ i.size = 1 ∧ i.bytes = 1 := info_parts (by kernel_rfl)
theorem info_i : ∃ i, Tryd.prog.info? 3 = some i ∧ i.zero = some (.int .i64 0) ∧ i.size = 1 ∧ i.bytes = 8 := info_parts (by kernel_rfl)
section
variable {w : World} {ops : Array Oper} {rest : List Oper} {o : Oper} {a : Act} {Q : Exit → Act → World → Prop}
/-- an append of a string -/
theorem app_str (hgd : o.guard = none) (sl x : Operand) (ho : o.op = .call { callee := .builtin .append, args := #[sl, x], argTypes := #[50, 9] }) (base : Nat) (v : Value) (T : Tx) (hs : a.eval sl = v) (hO : OwB w base v T) (s : Tx) (hx : a.eval x = .string ⟨s.toArray⟩)
    (hl : T.length + s.length ≤ 1000000000) (hbase : base ≤ w.heap.size) (h : ∀ v' w', OwB w' base v' (T ++ s) → w.grownBy w' v.ownBlock → wpList Tryd.prog ops Q rest (a.put o.dst v') w') : wpList Tryd.prog ops Q (o :: rest) a w := by
  obtain ⟨i, hi, hz, hsz, hb⟩ := info_b
  refine Lib.wpList_append_own_string _ hgd sl x _ _ ho base _ i Tryd.underlying50 Tryd.underlying9 hi hz hsz hb v T.length _ hs hO _ hx (by rw [str_size]; unfold maxLen; omega) (by rw [str_size]; omega) hbase fun v' w' h1 h2 _ => h v' w' ?_ h2
  rw [str_size, str_cells] at h1
  unfold OwB
  rw [List.length_append, List.map_append]
  exact h1
/-- an append of bytes that a slice reads -/
theorem app_bys (hgd : o.guard = none) (sl x : Operand) (ho : o.op = .call { callee := .builtin .append, args := #[sl, x], argTypes := #[50, 50] }) (base : Nat) (v : Value) (T : Tx) (hs : a.eval sl = v) (hO : OwB w base v T) (s : Tx) (g n c : Nat) (hn : s.length = n) (hx : a.eval x = .slice (some ⟨g, 0, none⟩) n c)
    (hc : ∀ (j : Nat) (u : UInt8), s[j]? = some u → w.cell? ⟨g, j, none⟩ = some (By u)) (hl : T.length + s.length ≤ 1000000000) (hbase : base ≤ w.heap.size) (h : ∀ v' w', OwB w' base v' (T ++ s) → w.grownBy w' v.ownBlock → wpList Tryd.prog ops Q rest (a.put o.dst v') w') : wpList Tryd.prog ops Q (o :: rest) a w := by
  obtain ⟨i, hi, hz, hsz, hb⟩ := info_b
  subst hn
  refine wpList_append_own _ hgd sl x _ ho base _ i _ 1 1 Tryd.underlying50 hi hz hsz hb rfl (by decide) v T.length _ hs hO ⟨g, 0, none⟩ s.length c (s.map By) hx (by simp) (fun j u hu => ?_) (By_one s) (by unfold maxLen; omega) (by omega) hbase fun v' w' h1 h2 _ => h v' w' ?_ h2
  · rw [add0]
    rw [List.getElem?_map] at hu
    cases e : s[j]? with
    | none => rw [e] at hu; cases hu
    | some d => rw [e] at hu; cases hu; exact hc j d e
  · unfold OwB
    rw [List.length_append, List.map_append]
    exact h1
/-- an append of numbers that a slice reads -/
theorem app_ints (hgd : o.guard = none) (sl x : Operand) (ho : o.op = .call { callee := .builtin .append, args := #[sl, x], argTypes := #[56, 56] }) (base : Nat) (v : Value) (L : List Int) (hs : a.eval sl = v) (hO : OwI w base v L) (s : List Int) (u : Value) (hx : a.eval x = u)
    (hR : RdI w u s) (hl : L.length + s.length ≤ 1000000000) (hbase : base ≤ w.heap.size) (h : ∀ v' w', OwI w' base v' (L ++ s) → w.grownBy w' v.ownBlock → wpList Tryd.prog ops Q rest (a.put o.dst v') w') : wpList Tryd.prog ops Q (o :: rest) a w := by
  obtain ⟨i, hi, hz, hsz, hb⟩ := info_i
  rcases hR with ⟨rfl, rfl⟩ | ⟨g, cap, cur, f, rfl, h2, hg, hc⟩
  · have := h v w (by rw [List.append_nil]; exact hO) ⟨rfl, rfl, rfl, Nat.le_refl _, fun _ _ _ => rfl⟩
    exact wpList_append_own_none hgd sl x _ ho base _ i 1 Tryd.underlying56 hi v _ _ hs hO hx this
  · refine wpList_append_own _ hgd sl x _ ho base _ i _ 1 8 Tryd.underlying56 hi hz hsz hb rfl (by decide) v L.length _ hs hO ⟨g, 0, none⟩ s.length cap (s.map In) hx (by simp) (fun j u hu => ?_) (In_one s) (by unfold maxLen; omega) (by omega) hbase fun v' w' h1 h2 _ => h v' w' ?_ h2
    · rw [add0]
      rw [List.getElem?_map] at hu
      cases e : s[j]? with
      | none => rw [e] at hu; cases hu
      | some d => rw [e] at hu; cases hu; rw [Lib.cell_of_heap hg]; exact hc j d e
    · unfold OwI
      rw [List.length_append, List.map_append]
      exact h1
end
theorem below_grown {w w' : World} {base B : Nat} {e : TypeId} {size : Nat} {v : Value} {n : Nat} {xs : List Value} (hO : w.ownsRow base e size v n xs) (hg : w.grownBy w' v.ownBlock) (hb : B ≤ base) (hB : B ≤ w.heap.size) : Below B w w' := by
  refine ⟨hg.os, hg.tape, hg.output, hg.size, fun k hk => hg.block k (by omega) (fun e => ?_)⟩
  have := (World.ownsRow.lt hO k e.symm).1
  omega
/-- the table of powers of ten lies -/
def Tb (w : World) : Prop := Lib.TabIs Tryd.prog w "internal/strconv.uint64pow10" .u64 Lib.pow10Tab
theorem Tb.up {w w' : World} {B : Nat} (h : Tb w) (hB : 3 ≤ B) (hb : Below B w w') : Tb w' := by
  unfold Tb Lib.TabIs World.var? at *
  cases hg : Tryd.prog.globalNamed "internal/strconv.uint64pow10" with
  | none => rw [hg] at h; simp at h
  | some g =>
    rw [hg] at h
    have e : (Tryd.prog.globalNamed "internal/strconv.uint64pow10").all (fun g => decide (g < 3)) = true := by kernel_rfl
    rw [hg] at e
    have hlt : g < 3 := of_decide_eq_true e
    simp only [Option.bind_some] at h ⊢
    rw [hb.block g (by omega)]
    exact h
end Go.Proofs.YtionncfpcbjchaaDoor
