import Derived.Test.YtihkkbbphdgagaaJ3
namespace Go.Proofs.Ytihkkbbphdgagaa
open Go.RowKit

/-- flags -/
def OwB (w : World) (base : Nat) (v : Value) (us : List Bool) : Prop := w.ownsRow base 4 1 v us.length (us.map Value.bool)
theorem info4' : ∃ i, Try.prog.info? 4 = some i ∧ i.zero = some (.bool false) ∧ i.size = 1 ∧ i.bytes = 1 := info_parts (by kernel_rfl)
section
variable {w wr w' : World} {base g cap l : Nat} {zs : List Bool} {v : Value}
theorem OwB.len (h : OwB w base v zs) : ∃ ao cap, v = .slice ao zs.length cap := by
  obtain ⟨hl, ⟨rfl, h0⟩ | ⟨g, cap, cur, rfl, _⟩⟩ := h
  · exact ⟨none, 0, by rw [h0]⟩
  · exact ⟨_, _, rfl⟩
theorem OwB.some_of (h : OwB w base v zs) (hp : 0 < zs.length) : ∃ g cap, v = .slice (some ⟨g, 0, none⟩) zs.length cap ∧ base ≤ g ∧ zs.length ≤ cap ∧ g < w.heap.size := by
  obtain ⟨hl, ⟨_, h0⟩ | ⟨g, cap, cur, hv, hb, hg, hn, hm, hs, ht⟩⟩ := h
  · omega
  · exact ⟨g, cap, hv, hb, hn, (Array.getElem?_eq_some_iff.1 hg).1⟩
theorem OwB.cell (h : OwB w base (.slice (some ⟨g, 0, none⟩) l cap) zs) {j : Nat} {b : Bool} (hj : zs[j]? = some b) : w.cell? ⟨g, j, none⟩ = some (.bool b) := by
  have hc := World.ownsRow.cells h rfl j (.bool b) (by simp [hj])
  rw [add0] at hc; exact hc
theorem OwB.frz (h : OwB w base (.slice (some ⟨g, 0, none⟩) l cap) zs) (j : Nat) : w.frozen? ⟨g, j, none⟩ = false := by
  obtain ⟨hl, ⟨h0, _⟩ | ⟨g', cap', cur, hv, hb, hg, hn, hm, hs, ht⟩⟩ := h
  · cases h0
  · cases hv; exact frozen_of_row _ _ _ _ _ hg
theorem OwB.set (h : OwB w base (.slice (some ⟨g, 0, none⟩) l cap) zs) {k : Nat} (z : Bool) : OwB (w.setCell ⟨g, k, none⟩ (.bool z)) base (.slice (some ⟨g, 0, none⟩) l cap) (zs.set k z) := by
  obtain ⟨hl, ⟨h0, _⟩ | ⟨g', cap', cur, hv, hb, hg, hn, hm, hs, ht⟩⟩ := h
  · cases h0
  · cases hv
    refine ⟨by simp, .inr ⟨g, cap, cur.setIfInBounds k (.bool z), by simp, hb, heap_setCell_same w g k cur 4 _ hg, by simpa using hn, hm, by simpa using hs, ?_⟩⟩
    rw [List.length_set, List.map_set, ← ht]
    simp [List.take_set]
theorem OwB.keep (h : OwB w base v zs) (hk : ∀ b, v.ownBlock = some b → w'.heap[b]? = w.heap[b]?) : OwB w' base v zs := by
  obtain ⟨hl, ⟨rfl, h0⟩ | ⟨g, cap, cur, rfl, hb, hg, r⟩⟩ := h
  · exact ⟨hl, .inl ⟨rfl, h0⟩⟩
  · exact ⟨hl, .inr ⟨g, cap, cur, rfl, hb, by rw [hk g rfl]; exact hg, r⟩⟩
theorem OwB.lt (h : OwB w base v zs) {b : Nat} (hb : v.ownBlock = some b) : base ≤ b ∧ b < w.heap.size := World.ownsRow.lt h b hb
theorem OwB.up (h : OwB w base v zs) (hb : Below w.heap.size w w') : OwB w' base v zs := h.keep (fun b e => hb.block b (h.lt e).2)
theorem OwB.mod (h : OwB w base v zs) {F : Nat → Prop} (hm : Mod F w w') (hF : ∀ b, F b → b < base) : OwB w' base v zs :=
  h.keep (fun b e => hm.block b (h.lt e).2 (fun hf => by have := hF b hf; have := (h.lt e).1; omega))
end
/-- a row of the call's own has grown: the memory, older than it, stands -/
theorem Sx.grown {w wr w2 : World} {B G n b0 : Nat} {m : Nat → Fr} {o : Obj} {row : Option Nat} (h : Sx w wr B G n m) (hg : (wr.alloc o).grownBy w2 row) (hr : ∀ k, row = some k → b0 ≤ k) (hB : B < b0) (hG : G < b0) (hw : w.heap.size ≤ b0) : Sx w w2 B G n m := by
  have h2 := h.below ((Below.refl _ _).alloc (Nat.le_refl _) o)
  have hs : (wr.alloc o).heap.size = wr.heap.size + 1 := by simp
  refine ⟨h2.mem.keep (hg.block B h2.mem.lt (fun e => by have := hr B e.symm; omega)) (hg.block G h2.mem.glt (fun e => by have := hr G e.symm; omega)), h.b, h.g, ?_⟩
  exact h2.bel.grown hg h2.bel.size (fun k e => by have := hr k e; omega)
/-- the frames' holds are what the flags say; serials count on -/
structure Us (m : Nat → Fr) (us : List Bool) (n : Nat) : Prop where
  len : us.length = n
  yes : ∀ j, us[j]? = some true → (m j).h = 1 ∧ (m j).s = (j : Int) + 1
  no : ∀ j, us[j]? = some false → (m j).h = 0
  out : ∀ j, n ≤ j → (m j).h = 0
theorem Us.nil : Us (fun _ => Fr.nil) [] 0 := ⟨rfl, by simp, by simp, fun _ _ => rfl⟩
theorem Us.snoc {m : Nat → Fr} {us : List Bool} {n : Nat} (h : Us m us n) : Us (upd m n (Fr.new ((n : Int) + 1))) (us ++ [true]) (n + 1) := by
  have hl := h.len
  refine ⟨by simp [hl], fun j hj => ?_, fun j hj => ?_, fun j hj => ?_⟩
  · by_cases e : j = n
    · subst e; simp [upd, Fr.new]
    · rw [upd_other _ _ e]
      have : j < us.length := by have := (List.getElem?_eq_some_iff.1 hj).1; simp at this; omega
      rw [List.getElem?_append_left this] at hj; exact h.yes j hj
  · by_cases e : j = n
    · subst e; rw [← hl, List.getElem?_concat_length] at hj; simp at hj
    · rw [upd_other _ _ e]
      have : j < us.length := by have := (List.getElem?_eq_some_iff.1 hj).1; simp at this; omega
      rw [List.getElem?_append_left this] at hj; exact h.no j hj
  · rw [upd_other _ _ (by omega)]; exact h.out j (by omega)
theorem Us.drop {m : Nat → Fr} {us : List Bool} {n k : Nat} (h : Us m us n) (hk : k < n) : Us (upd m k Fr.nil) (us.set k false) n := by
  have hl := h.len
  refine ⟨by simp [hl], fun j hj => ?_, fun j hj => ?_, fun j hj => ?_⟩
  · by_cases e : k = j
    · subst e; rw [List.getElem?_set_self (by omega)] at hj; simp at hj
    · rw [List.getElem?_set_ne e] at hj; rw [upd_other _ _ (Ne.symm e)]; exact h.yes j hj
  · by_cases e : k = j
    · subst e; simp [upd, Fr.nil]
    · rw [List.getElem?_set_ne e] at hj; rw [upd_other _ _ (Ne.symm e)]; exact h.no j hj
  · rw [upd_other _ _ (by omega)]; exact h.out j hj
theorem Us.get {m : Nat → Fr} {us : List Bool} {n k : Nat} (h : Us m us n) (hk : k < n) : ∃ b, us[k]? = some b := ⟨_, List.getElem?_eq_getElem (by rw [h.len]; exact hk)⟩
/-- numbers that came in -/
def IsInts (w : World) (a : Option Addr) (len : Nat) (Z : Nat → Int) : Prop := ∀ k, k < len → ∃ x, a = some x ∧ w.cell? (x.add k) = some (.int .i64 (Z k))
theorem IsInts.below {w w' : World} {a : Option Addr} {len : Nat} {Z : Nat → Int} (h : IsInts w a len Z) (hb : Below w.heap.size w w') : IsInts w' a len Z := by
  intro k hk
  obtain ⟨x, h1, h2⟩ := h k hk
  exact ⟨x, h1, by rw [hb.cell (World.block_lt_of_cell? w _ h2)]; exact h2⟩
set_option maxRecDepth 10000 in
set_option maxHeartbeats 800000 in
theorem same_ints (w : World) (b1 b2 : Nat) (v1 v2 : Value) (zs : List Nat) (h1 : OwI w b1 v1 zs) (h2 : OwI w b2 v2 zs) (hl : zs.length ≤ 1000) :
    Calls Try.prog 18 #[v1, v2] w fun e w' => e = .returned (.bool true) ∧ Below w.heap.size w w' := by
  obtain ⟨a1, c1, hv1⟩ := h1.len
  obtain ⟨a2, c2, hv2⟩ := h2.len
  subst hv1
  subst hv2
  obtain ⟨L, hL⟩ : ∃ L, zs.length = L := ⟨_, rfl⟩
  rw [hL] at h1 h2 hl ⊢
  have H1 := hide (And.intro h1 (And.intro h2 hL))
  clear h1 h2 hL
  go_enter Try.func18, Try.ntmps18
  go_wp2
  go_loopw [5] (fun i wr => ∃ k : Nat, k ≤ L ∧ i = .int .i64 (k : Int) ∧ Below w.heap.size w wr) (fun i _ => 1001 - (intOf i).toNat)
  case atStart => exact ⟨0, by omega, rfl, Below.refl _ _⟩
  case round =>
    obtain ⟨k, hk, rfl, hb⟩ := hrel
    by_cases hlt : k < L
    · obtain ⟨g1, q1, e1, _, _, _⟩ := H1.out.1.some_of (by rw [H1.out.2.2]; omega)
      obtain ⟨g2, q2, e2, _, _, _⟩ := H1.out.2.1.some_of (by rw [H1.out.2.2]; omega)
      obtain ⟨rfl, rfl⟩ : a1 = some ⟨g1, 0, none⟩ ∧ c1 = q1 := by simp at e1; exact ⟨e1.1, e1.2.2⟩
      obtain ⟨rfl, rfl⟩ : a2 = some ⟨g2, 0, none⟩ ∧ c2 = q2 := by simp at e2; exact ⟨e2.1, e2.2.2⟩
      have d1 := cell_up (H1.out.1.cell (j := k) (by rw [H1.out.2.2]; exact hlt)) hb
      have d2 := cell_up (H1.out.2.1.cell (j := k) (by rw [H1.out.2.2]; exact hlt)) hb
      generalize ((zs.getD k 0 : Nat) : Int) = z at *
      clear e1 e2
      have HB := hide hb.drew
      clear hb
      go_wp2
      go_region_held (fun W => W.cell? ⟨g1, k, none⟩ = some (.int .i64 z) ∧ W.cell? ⟨g2, k, none⟩ = some (.int .i64 z))
        (exact And.intro d1 d2)
        (fail)
      go_wp2
      go_roundw
      case rel => exact ⟨k + 1, by omega, by go_num, HB.out⟩
      case measure => simp [intOf]; omega
    · have hd : decide (k < L) = false := by simp; omega
      have HB := hide hb
      clear hb
      go_wp2
      go_ret
      exact ⟨rfl, HB.out⟩
end Go.Proofs.Ytihkkbbphdgagaa
