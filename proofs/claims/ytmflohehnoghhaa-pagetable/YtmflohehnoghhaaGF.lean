import Derived.Test.YtmflohehnoghhaaG8
import Derived.Deep.Slices
import Derived.Laws.AppendOwn
namespace Go.Proofs.Ytmflohehnoghhaa
open Go.RowKit
def Mp.nil : Mp := ⟨0, 0, false⟩
/-- a list of mappings, as cells; a list of one's own -/
def mcs (zs : List Mp) : List Value := zs.flatMap Mp.cells
theorem mcs_len (zs : List Mp) : (mcs zs).length = zs.length * 3 := by
  induction zs with
  | nil => rfl
  | cons z r ih => simp only [mcs, List.flatMap_cons, List.length_append, List.length_cons] at ih ⊢; rw [ih]; simp [Mp.cells]; omega
theorem mcs_get (zs : List Mp) {k : Nat} {z : Mp} (hz : zs[k]? = some z) {j : Nat} (hj : j < 3) : (mcs zs)[k * 3 + j]? = z.cells[j]? := by
  induction zs generalizing k with
  | nil => simp at hz
  | cons y r ih =>
    have e : mcs (y :: r) = y.cells ++ mcs r := by simp [mcs]
    rw [e]
    match k with
    | 0 =>
      simp at hz; subst hz
      rw [List.getElem?_append_left (by simp [Mp.cells]; omega)]; simp
    | k + 1 =>
      rw [List.getElem?_append_right (by simp [Mp.cells]; omega)]
      rw [show (k + 1) * 3 + j - y.cells.length = k * 3 + j by simp [Mp.cells]; omega]
      exact ih (by simpa using hz)
theorem mcs_snoc (zs : List Mp) (z : Mp) : mcs (zs ++ [z]) = mcs zs ++ z.cells := by simp [mcs]
theorem cells_one (z : Mp) : ∀ u ∈ z.cells, u.oneCell' = true := by intro u hu; simp [Mp.cells] at hu; rcases hu with rfl | rfl | rfl <;> rfl
structure OwM (w : World) (base : Nat) (v : Value) (zs : List Mp) : Prop where
  out : w.ownsRow base 64 3 v zs.length (mcs zs)
section
variable {w w' : World} {base : Nat} {v : Value} {zs : List Mp}
theorem OwM.len (h : OwM w base v zs) : ∃ ao cap, v = .slice ao zs.length cap := by
  obtain ⟨hl, ⟨rfl, h0⟩ | ⟨g, cap, cur, rfl, _⟩⟩ := h.out
  · exact ⟨none, 0, by rw [h0]⟩
  · exact ⟨_, _, rfl⟩
theorem OwM.maps {ao : Option Addr} {l cap : Nat} (h : OwM w base (.slice ao l cap) zs) : IsMaps w ao zs.length (fun k => zs.getD k Mp.nil) := by
  intro k hk
  obtain ⟨hl, ⟨he, h0⟩ | ⟨g, cap', cur, he, hb, hg, hn, hm, hs, ht⟩⟩ := h.out
  · omega
  · simp at he
    obtain ⟨rfl, rfl, rfl⟩ := he
    refine ⟨_, rfl, fun j u hu => ?_⟩
    have hz : zs[k]? = some (zs.getD k Mp.nil) := by rw [List.getElem?_eq_getElem hk]; simp [hk]
    have hj : j < 3 := (List.getElem?_eq_some_iff.1 hu).1
    have h1 := mcs_get zs hz hj
    rw [hu, ← ht, List.getElem?_take_of_lt (by omega)] at h1
    rw [Deep.add_add, add0]
    rw [cell_of_row _ _ _ _ _ _ hg]; simpa using h1
theorem OwM.keep (h : OwM w base v zs) (hk : ∀ b, v.ownBlock = some b → w'.heap[b]? = w.heap[b]?) : OwM w' base v zs := by
  obtain ⟨hl, ⟨rfl, h0⟩ | ⟨g, cap, cur, rfl, hb, hg, hn, hm, hs, ht⟩⟩ := h.out
  · exact ⟨hl, .inl ⟨rfl, h0⟩⟩
  · exact ⟨hl, .inr ⟨g, cap, cur, rfl, hb, by rw [hk g rfl]; exact hg, hn, hm, hs, ht⟩⟩
theorem OwM.blk (h : OwM w base v zs) {b : Nat} (hb : v.ownBlock = some b) : base ≤ b ∧ b < w.heap.size := World.ownsRow.lt h.out b hb
theorem OwM.below (h : OwM w base v zs) (hb : Below w.heap.size w w') : OwM w' base v zs := h.keep fun b e => hb.block b (h.blk e).2
theorem OwM.nil (w : World) (base : Nat) : OwM w base (.slice none 0 0) [] := ⟨World.ownsRow_nil _ _ _ _⟩
theorem OwM.drew (h : OwM w base v zs) : OwM w.drew base v zs := h.keep fun _ _ => rfl
theorem OwM.mod (h : OwM w base v zs) {F : Nat → Prop} (hm : Mod F w w') (hF : ∀ b, v.ownBlock = some b → ¬ F b) : OwM w' base v zs := h.keep fun b e => hm.block b (h.blk e).2 (hF b e)
end
theorem info50' : ∃ i, Try.prog.info? 64 = some i ∧ i.zero = some (.agg #[.int .i64 0, .int .i64 0, .bool false]) ∧ i.size = 3 ∧ i.bytes = 24 := info_parts (by kernel_rfl)
theorem cells_new (w : World) (z : Mp) : ∀ j v, z.cells[j]? = some v → (w.alloc (.cells #[.int .i64 z.v, .int .i64 z.s, .bool z.b] 64)).cell? ((⟨w.heap.size, 0, none⟩ : Addr).add j) = some v := by
  intro j v hv
  rw [add0, cell_of_row _ _ _ _ _ _ (heap_alloc_last w (.cells #[.int .i64 z.v, .int .i64 z.s, .bool z.b] 64))]
  simpa [Mp.cells] using hv
theorem below_own {w wr w2 : World} {e size n : Nat} {v : Value} {xs : List Value} {o : Obj} (hb : Below w.heap.size w wr) (ho : wr.ownsRow w.heap.size e size v n xs) (hg : (wr.alloc o).grownBy w2 v.ownBlock) (hs : w.heap.size ≤ wr.heap.size) : Below w.heap.size w w2 :=
  (hb.alloc hs o).grown hg (by simp; omega) (fun k e => (World.ownsRow.lt ho k e).1)
/-- the mappings of the first k pages -/
def ents (m : Nat → E) : Nat → List Mp
  | 0 => []
  | k + 1 => match m k with
    | none => ents m k
    | some (s, b) => ents m k ++ [⟨(k : Int), (s : Int), b⟩]
theorem ents_none {m : Nat → E} {k : Nat} (h : m k = none) : ents m (k + 1) = ents m k := by simp [ents, h]
theorem ents_some {m : Nat → E} {k s : Nat} {b : Bool} (h : m k = some (s, b)) : ents m (k + 1) = ents m k ++ [⟨(k : Int), (s : Int), b⟩] := by simp [ents, h]
theorem ents_len (m : Nat → E) (k : Nat) : (ents m k).length ≤ k := by
  induction k with
  | zero => simp [ents]
  | succ k ih =>
    rcases h : m k with _ | ⟨s, b⟩
    · rw [ents_none h]; omega
    · rw [ents_some h]; simp; omega
section
variable (w : World) (B : Nat) (m : Nat → E)
set_option maxRecDepth 100000 in
set_option maxHeartbeats 1600000 in
theorem entries_any (h : Tb w B m) :
    Calls Try.prog 13 #[.pointer (some ⟨B, 0, none⟩)] w fun e w' => ∃ r, e = .returned r ∧ OwM w' w.heap.size r (ents m 16) ∧ Below w.heap.size w w' := by
  obtain ⟨i50, hi, hz, hs, hby⟩ := info50'
  have H := hide h
  have hi58 : (Try.prog.info? 49).map (·.size) = some (tc m).toArray.size := by simp only [List.size_toArray, tc_len]; exact info58
  clear h
  go_enter Try.func13, Try.ntmps13
  go_upto_region 3 with (refine wpList_load_row rfl 49 _ rfl B rfl 51 (tc m).toArray (0, 0) _ H.out.out Try.underlying49 rfl hi58 ?_)
  go_loopw [10, 3] (fun i v wr => ∃ k : Nat, k ≤ 16 ∧ i = .int .i64 (k : Int) ∧ OwM wr w.heap.size v (ents m k) ∧ Below w.heap.size w wr) (fun i _ _ => 16 - (intOf i).toNat)
  case atStart => exact ⟨0, by omega, rfl, OwM.nil _ _, Below.refl _ _⟩
  case round =>
    obtain ⟨k, hk, rfl, hO, hM⟩ := hrel
    by_cases hlt : k < 16
    · have hd : decide ((k : Int) < 16) = true := by simp; omega
      obtain ⟨a2, c2, rfl⟩ := hO.len
      have hll := ents_len m k
      go_upto_region 5 with (refine index58 ?hw0 _ _ rfl m k hlt rfl rfl ?_)
      have hb1 : Below wr.heap.size wr (wr.alloc (.cells #[.int .i64 (may (m k) : Nat), .int .i64 (sl (m k) : Nat)] 48)) := (Below.refl _ _).alloc (Nat.le_refl _) _
      have hz1 := heap_alloc_last wr (.cells #[.int .i64 (may (m k) : Nat), .int .i64 (sl (m k) : Nat)] 48)
      have d0 : (wr.alloc (.cells #[.int .i64 (may (m k) : Nat), .int .i64 (sl (m k) : Nat)] 48)).cell? ⟨wr.heap.size, 0, none⟩ = some (.int .i64 (may (m k) : Nat)) := by rw [cell_of_row _ _ 0 _ _ _ hz1]; rfl
      have d1 : (wr.alloc (.cells #[.int .i64 (may (m k) : Nat), .int .i64 (sl (m k) : Nat)] 48)).cell? ⟨wr.heap.size, 1, none⟩ = some (.int .i64 (sl (m k) : Nat)) := by rw [cell_of_row _ _ 1 _ _ _ hz1]; rfl
      have HT := hide ((H.out.below hM).below hb1)
      have HO := hide (And.intro (hO.below hb1) (hM.trans (hb1.mono hM.size)))
      clear hb1 hz1 hO hM
      generalize wr.alloc (.cells #[.int .i64 (may (m k) : Nat), .int .i64 (sl (m k) : Nat)] 48) = w1 at *
      generalize wr.heap.size = M at *
      have hp := present_any w1 B m k HT.out hlt
      rcases hm : m k with _ | ⟨s, b⟩
      · rw [hm] at hp
        go_wp2_with fail
        refine hp.mono ?_
        rintro e w2 ⟨rfl, rfl⟩
        clear d0 d1 hp
        go_wp2
        go_roundw
        case rel => exact ⟨k + 1, by omega, by go_num, by rw [ents_none hm]; exact HO.out.1, HO.out.2⟩
        case measure => simp [intOf]; omega
      · rw [hm] at hp
        have hq : (((may (m k) : Nat) : Int) == 2) = b := by rw [hm]; cases b <;> rfl
        have es : sl (m k) = s := by rw [hm]; rfl
        rw [es] at d1
        generalize ((may (m k) : Nat) : Int) = z0 at *
        obtain ⟨L, hL⟩ : ∃ L, (ents m k).length = L := ⟨_, rfl⟩
        have HO2 : Hid (w1.ownsRow w.heap.size 64 3 (.slice a2 L c2) L (mcs (ents m k))) := hide (by have := HO.out.1.out; rw [hL] at this; exact this)
        rw [hL] at hll ⊢
        go_wp2_with fail
        refine hp.mono ?_
        rintro e w2 ⟨rfl, rfl⟩
        clear hp
        go_wp2_with (at_builtin; refine wpList_append_own _ rfl _ _ 32 rfl w.heap.size 64 i50 (.agg #[.int .i64 0, .int .i64 0, .bool false]) 3 24 Try.underlying32 hi hz hs hby rfl (by decide) _ L (mcs (ents m k)) rfl (HO2.out.alloc _) ⟨w2.heap.size, 0, none⟩ 1 1 (Mp.cells ⟨(k : Int), (s : Int), b⟩) rfl rfl ?c1 (cells_one _) ?c3 ?c4 ?c5 ?_)
        case c1 => rw [← hq]; exact cells_new w2 ⟨(k : Int), (s : Int), (z0 == 2)⟩
        case c3 => unfold maxLen; omega
        case c4 => omega
        case c5 => simp; have := HO.out.2.size; omega
        intro r2 w3 hown hg _
        have H2 : Hid (OwM w3 w.heap.size r2 (ents m (k + 1))) := hide ⟨by rw [ents_some hm, List.length_append, hL, mcs_snoc]; exact hown⟩
        have HB2 := hide (below_own HO.out.2 HO2.out hg HO.out.2.size)
        clear hown hg d0 d1
        go_wp2
        go_roundw
        case rel => exact ⟨k + 1, by omega, by go_num, H2.out, HB2.out⟩
        case measure => simp [intOf]; omega
    · obtain rfl : k = 16 := by omega
      have hd : decide (((16 : Nat) : Int) < 16) = false := by simp
      have HX := hide (And.intro hO hM)
      clear hO hM
      go_wp2
      go_ret
      exact ⟨_, rfl, HX.out⟩
end
end Go.Proofs.Ytmflohehnoghhaa
