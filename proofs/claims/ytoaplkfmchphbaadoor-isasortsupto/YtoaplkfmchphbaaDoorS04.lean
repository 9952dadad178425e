import Derived.Laws.AppendOwn
import Derived.Test.YtoaplkfmchphbaaDoorS03
namespace Go.Proofs.YtoaplkfmchphbaaDoor
open Go.RowKit
def nums (l : List Int) : List Value := l.map (Value.int .i64)
theorem cell_one_new (w : World) (v : Value) (t : TypeId) : ∀ j u, [v][j]? = some u → (w.alloc (.cells #[v] t)).cell? ((⟨w.heap.size, 0, none⟩ : Addr).add j) = some u := by
  intro j u h
  match j, h with
  | 0, h =>
    simp at h
    subst h
    rw [add0, World.cell?_alloc_new]; rfl
theorem own_shape {w : World} {base : Nat} {e : TypeId} {size : Nat} {v : Value} {n : Nat} {xs : List Value} (h : w.ownsRow base e size v n xs) : ∃ a c, v = .slice a n c := by
  rcases h.2 with ⟨h1, h2⟩ | ⟨g, cap, cur, h1, _⟩
  · exact ⟨none, 0, by rw [h1, h2]⟩
  · exact ⟨_, _, h1⟩
/-- the fields that an operation has: 0, 1, 2 -/
def fl (a b : Bool) (k : Nat) : List Int := (if a then [0] else []) ++ (if b then [1] else []) ++ (if k = 0 then [] else [2])
/-- a field's text -/
def tfl (na nb : Nat) (z f : Int) : List UInt8 := if f = 0 then 114 :: Lib.itoa (na : Int) else if f = 1 then 114 :: Lib.itoa (nb : Int) else Lib.itoa z
theorem flds_fl (no na nb : Nat) (z : Int) : flds ⟨(no : Int), (na : Int), (nb : Int), z⟩ = (fl (uA no) (uB no) (kd no)).map (tfl na nb z) := by
  unfold flds fl
  simp only [Int.toNat_natCast]
  cases uA no <;> cases uB no <;> (by_cases e : kd no = 0 <;> simp [e, tfl])
theorem info_int : ∃ i, Tryd.prog.info? 3 = some i ∧ i.zero = some (.int .i64 0) ∧ i.size = 1 ∧ i.bytes = 8 := info_parts (by kernel_rfl)
section
variable (w : World)
set_option maxRecDepth 100000 in
set_option maxHeartbeats 2000000 in
theorem fields_any (s : ByteArray) (ua ub : Bool) (k : Nat) : Calls Tryd.prog 47 #[.agg #[.string s, .bool ua, .bool ub, .int .i64 (k : Int)]] w fun e w' => ∃ v, e = .returned v ∧ w'.ownsRow (w.heap.size + 1) 3 1 v (fl ua ub k).length (nums (fl ua ub k)) ∧ Below w.heap.size w w' := by
  obtain ⟨i3, hi, hz, hs, hb⟩ := info_int
  obtain ⟨W0, hW0⟩ : ∃ W0, W0 = w.alloc (.cells #[.string s, .bool ua, .bool ub, .int .i64 (k : Int)] 91) := ⟨_, rfl⟩
  have hN : W0.heap.size = w.heap.size + 1 := by rw [hW0]; simp
  have HC1 : Hid (W0.cell? ⟨w.heap.size, 1, none⟩ = some (.bool ua)) := hide (by rw [hW0, World.cell?_alloc_new]; rfl)
  have HC2 : Hid (W0.cell? ⟨w.heap.size, 2, none⟩ = some (.bool ub)) := hide (by rw [hW0, World.cell?_alloc_new]; rfl)
  have HC3 : Hid (W0.cell? ⟨w.heap.size, 3, none⟩ = some (.int .i64 (k : Int))) := hide (by rw [hW0, World.cell?_alloc_new]; rfl)
  have cA : ∀ V, Below (w.heap.size + 1) W0 V → ∀ j v, W0.cell? ⟨w.heap.size, j, none⟩ = some v → V.cell? ⟨w.heap.size, j, none⟩ = some v := fun V hV j v h => by rw [hV.cell (p := ⟨w.heap.size, j, none⟩) (Nat.lt_succ_self _)]; exact h
  have HZ : Hid (w.heap.size + 1 ≤ W0.heap.size) := hide (by omega)
  have HE : Hid (∀ V, Below (w.heap.size + 1) W0 V → Below w.heap.size w V) := hide (fun V hV => (hW0 ▸ bel1 w _ : Below w.heap.size w W0).trans (hV.mono (by omega)))
  have HO : Hid (W0.ownsRow (w.heap.size + 1) 3 1 (.slice none 0 0) 0 (nums [])) := hide ⟨rfl, .inl ⟨rfl, rfl⟩⟩
  have HB : Hid (Below (w.heap.size + 1) W0 W0) := hide (Below.refl _ _)
  have hsz := HZ.out
  have b0 := HC1.out
  have b1 := HC2.out
  have b2 := HC3.out
  go_enter Tryd.func47, Tryd.ntmps47
  go_upto_region 1 with fail
  rw [← hW0]
  clear hW0 hN
  rcases ua with _ | _
  · go_upto_region 4 with fail
    rcases ub with _ | _
    · go_upto_region 6 with fail
      by_cases hk : k = 0
      · have HL : Hid (fl false false k = []) := hide (by simp [fl, hk])
        subst hk
        go_wp2
        go_ret
        exact ⟨_, rfl, by rw [HL.out]; exact HO.out, HE.out _ HB.out⟩
      · have HL : Hid (fl false false k = [2]) := hide (by simp [fl, hk])
        have hk2 : ¬ (k : Int) = 0 := by omega
        clear hk
        go_upto_region 8 with (at_builtin; refine wpList_append_own _ rfl _ _ 22 rfl (w.heap.size + 1) 3 i3 (.int .i64 0) 1 8 Tryd.underlying22 hi hz hs hb rfl (by decide) _ 0 (nums []) rfl (HO.out.alloc _) ⟨_, 0, none⟩ 1 1 [.int .i64 2] rfl rfl (cell_one_new _ _ _) (by simp [Value.oneCell']) (by unfold maxLen; omega) (by omega) (by simp; omega) ?_; intro v2 w2 ho2 hg2 _; obtain ⟨au, cu, rfl⟩ := own_shape ho2)
        have HO2 : Hid (w2.ownsRow (w.heap.size + 1) 3 1 (.slice au 1 cu) 1 (nums [2])) := hide (by simpa [nums] using ho2)
        have HB2 : Hid (Below (w.heap.size + 1) W0 w2) := hide ((HB.out.alloc hsz _).grown hg2 (by simp; omega) (fun j hj => (HO.out.lt j hj).1))
        clear ho2 hg2 HO HB b0 b1 b2 hsz
        have HO := HO2
        have HB := HB2
        clear HO2 HB2
        have hsz := Nat.le_trans HZ.out HB.out.size
        have b0 := cA w2 HB.out 1 _ HC1.out
        have b1 := cA w2 HB.out 2 _ HC2.out
        have b2 := cA w2 HB.out 3 _ HC3.out
        go_wp2
        go_ret
        exact ⟨_, rfl, by rw [HL.out]; exact HO.out, HE.out _ HB.out⟩
    · go_upto_region 6 with (at_builtin; refine wpList_append_own _ rfl _ _ 22 rfl (w.heap.size + 1) 3 i3 (.int .i64 0) 1 8 Tryd.underlying22 hi hz hs hb rfl (by decide) _ 0 (nums []) rfl (HO.out.alloc _) ⟨_, 0, none⟩ 1 1 [.int .i64 1] rfl rfl (cell_one_new _ _ _) (by simp [Value.oneCell']) (by unfold maxLen; omega) (by omega) (by simp; omega) ?_; intro v2 w2 ho2 hg2 _; obtain ⟨au, cu, rfl⟩ := own_shape ho2)
      have HO2 : Hid (w2.ownsRow (w.heap.size + 1) 3 1 (.slice au 1 cu) 1 (nums [1])) := hide (by simpa [nums] using ho2)
      have HB2 : Hid (Below (w.heap.size + 1) W0 w2) := hide ((HB.out.alloc hsz _).grown hg2 (by simp; omega) (fun j hj => (HO.out.lt j hj).1))
      clear ho2 hg2 HO HB b0 b1 b2 hsz
      have HO := HO2
      have HB := HB2
      clear HO2 HB2
      have hsz := Nat.le_trans HZ.out HB.out.size
      have b0 := cA w2 HB.out 1 _ HC1.out
      have b1 := cA w2 HB.out 2 _ HC2.out
      have b2 := cA w2 HB.out 3 _ HC3.out
      by_cases hk : k = 0
      · have HL : Hid (fl false true k = [1]) := hide (by simp [fl, hk])
        subst hk
        go_wp2
        go_ret
        exact ⟨_, rfl, by rw [HL.out]; exact HO.out, HE.out _ HB.out⟩
      · have HL : Hid (fl false true k = [1, 2]) := hide (by simp [fl, hk])
        have hk2 : ¬ (k : Int) = 0 := by omega
        clear hk
        go_upto_region 8 with (at_builtin; refine wpList_append_own _ rfl _ _ 22 rfl (w.heap.size + 1) 3 i3 (.int .i64 0) 1 8 Tryd.underlying22 hi hz hs hb rfl (by decide) _ 1 (nums [1]) rfl (HO.out.alloc _) ⟨_, 0, none⟩ 1 1 [.int .i64 2] rfl rfl (cell_one_new _ _ _) (by simp [Value.oneCell']) (by unfold maxLen; omega) (by omega) (by simp; omega) ?_; intro v2 w2 ho2 hg2 _; obtain ⟨au, cu, rfl⟩ := own_shape ho2)
        have HO2 : Hid (w2.ownsRow (w.heap.size + 1) 3 1 (.slice au 2 cu) 2 (nums [1, 2])) := hide (by simpa [nums] using ho2)
        have HB2 : Hid (Below (w.heap.size + 1) W0 w2) := hide ((HB.out.alloc hsz _).grown hg2 (by simp; omega) (fun j hj => (HO.out.lt j hj).1))
        clear ho2 hg2 HO HB b0 b1 b2 hsz
        have HO := HO2
        have HB := HB2
        clear HO2 HB2
        have hsz := Nat.le_trans HZ.out HB.out.size
        have b0 := cA w2 HB.out 1 _ HC1.out
        have b1 := cA w2 HB.out 2 _ HC2.out
        have b2 := cA w2 HB.out 3 _ HC3.out
        go_wp2
        go_ret
        exact ⟨_, rfl, by rw [HL.out]; exact HO.out, HE.out _ HB.out⟩
  · go_upto_region 4 with (at_builtin; refine wpList_append_own _ rfl _ _ 22 rfl (w.heap.size + 1) 3 i3 (.int .i64 0) 1 8 Tryd.underlying22 hi hz hs hb rfl (by decide) _ 0 (nums []) rfl (HO.out.alloc _) ⟨_, 0, none⟩ 1 1 [.int .i64 0] rfl rfl (cell_one_new _ _ _) (by simp [Value.oneCell']) (by unfold maxLen; omega) (by omega) (by simp; omega) ?_; intro v2 w2 ho2 hg2 _; obtain ⟨au, cu, rfl⟩ := own_shape ho2)
    have HO2 : Hid (w2.ownsRow (w.heap.size + 1) 3 1 (.slice au 1 cu) 1 (nums [0])) := hide (by simpa [nums] using ho2)
    have HB2 : Hid (Below (w.heap.size + 1) W0 w2) := hide ((HB.out.alloc hsz _).grown hg2 (by simp; omega) (fun j hj => (HO.out.lt j hj).1))
    clear ho2 hg2 HO HB b0 b1 b2 hsz
    have HO := HO2
    have HB := HB2
    clear HO2 HB2
    have hsz := Nat.le_trans HZ.out HB.out.size
    have b0 := cA w2 HB.out 1 _ HC1.out
    have b1 := cA w2 HB.out 2 _ HC2.out
    have b2 := cA w2 HB.out 3 _ HC3.out
    rcases ub with _ | _
    · go_upto_region 6 with fail
      by_cases hk : k = 0
      · have HL : Hid (fl true false k = [0]) := hide (by simp [fl, hk])
        subst hk
        go_wp2
        go_ret
        exact ⟨_, rfl, by rw [HL.out]; exact HO.out, HE.out _ HB.out⟩
      · have HL : Hid (fl true false k = [0, 2]) := hide (by simp [fl, hk])
        have hk2 : ¬ (k : Int) = 0 := by omega
        clear hk
        go_upto_region 8 with (at_builtin; refine wpList_append_own _ rfl _ _ 22 rfl (w.heap.size + 1) 3 i3 (.int .i64 0) 1 8 Tryd.underlying22 hi hz hs hb rfl (by decide) _ 1 (nums [0]) rfl (HO.out.alloc _) ⟨_, 0, none⟩ 1 1 [.int .i64 2] rfl rfl (cell_one_new _ _ _) (by simp [Value.oneCell']) (by unfold maxLen; omega) (by omega) (by simp; omega) ?_; intro v2 w2 ho2 hg2 _; obtain ⟨au, cu, rfl⟩ := own_shape ho2)
        have HO2 : Hid (w2.ownsRow (w.heap.size + 1) 3 1 (.slice au 2 cu) 2 (nums [0, 2])) := hide (by simpa [nums] using ho2)
        have HB2 : Hid (Below (w.heap.size + 1) W0 w2) := hide ((HB.out.alloc hsz _).grown hg2 (by simp; omega) (fun j hj => (HO.out.lt j hj).1))
        clear ho2 hg2 HO HB b0 b1 b2 hsz
        have HO := HO2
        have HB := HB2
        clear HO2 HB2
        have hsz := Nat.le_trans HZ.out HB.out.size
        have b0 := cA w2 HB.out 1 _ HC1.out
        have b1 := cA w2 HB.out 2 _ HC2.out
        have b2 := cA w2 HB.out 3 _ HC3.out
        go_wp2
        go_ret
        exact ⟨_, rfl, by rw [HL.out]; exact HO.out, HE.out _ HB.out⟩
    · go_upto_region 6 with (at_builtin; refine wpList_append_own _ rfl _ _ 22 rfl (w.heap.size + 1) 3 i3 (.int .i64 0) 1 8 Tryd.underlying22 hi hz hs hb rfl (by decide) _ 1 (nums [0]) rfl (HO.out.alloc _) ⟨_, 0, none⟩ 1 1 [.int .i64 1] rfl rfl (cell_one_new _ _ _) (by simp [Value.oneCell']) (by unfold maxLen; omega) (by omega) (by simp; omega) ?_; intro v2 w2 ho2 hg2 _; obtain ⟨au, cu, rfl⟩ := own_shape ho2)
      have HO2 : Hid (w2.ownsRow (w.heap.size + 1) 3 1 (.slice au 2 cu) 2 (nums [0, 1])) := hide (by simpa [nums] using ho2)
      have HB2 : Hid (Below (w.heap.size + 1) W0 w2) := hide ((HB.out.alloc hsz _).grown hg2 (by simp; omega) (fun j hj => (HO.out.lt j hj).1))
      clear ho2 hg2 HO HB b0 b1 b2 hsz
      have HO := HO2
      have HB := HB2
      clear HO2 HB2
      have hsz := Nat.le_trans HZ.out HB.out.size
      have b0 := cA w2 HB.out 1 _ HC1.out
      have b1 := cA w2 HB.out 2 _ HC2.out
      have b2 := cA w2 HB.out 3 _ HC3.out
      by_cases hk : k = 0
      · have HL : Hid (fl true true k = [0, 1]) := hide (by simp [fl, hk])
        subst hk
        go_wp2
        go_ret
        exact ⟨_, rfl, by rw [HL.out]; exact HO.out, HE.out _ HB.out⟩
      · have HL : Hid (fl true true k = [0, 1, 2]) := hide (by simp [fl, hk])
        have hk2 : ¬ (k : Int) = 0 := by omega
        clear hk
        go_upto_region 8 with (at_builtin; refine wpList_append_own _ rfl _ _ 22 rfl (w.heap.size + 1) 3 i3 (.int .i64 0) 1 8 Tryd.underlying22 hi hz hs hb rfl (by decide) _ 2 (nums [0, 1]) rfl (HO.out.alloc _) ⟨_, 0, none⟩ 1 1 [.int .i64 2] rfl rfl (cell_one_new _ _ _) (by simp [Value.oneCell']) (by unfold maxLen; omega) (by omega) (by simp; omega) ?_; intro v2 w2 ho2 hg2 _; obtain ⟨au, cu, rfl⟩ := own_shape ho2)
        have HO2 : Hid (w2.ownsRow (w.heap.size + 1) 3 1 (.slice au 3 cu) 3 (nums [0, 1, 2])) := hide (by simpa [nums] using ho2)
        have HB2 : Hid (Below (w.heap.size + 1) W0 w2) := hide ((HB.out.alloc hsz _).grown hg2 (by simp; omega) (fun j hj => (HO.out.lt j hj).1))
        clear ho2 hg2 HO HB b0 b1 b2 hsz
        have HO := HO2
        have HB := HB2
        clear HO2 HB2
        have hsz := Nat.le_trans HZ.out HB.out.size
        have b0 := cA w2 HB.out 1 _ HC1.out
        have b1 := cA w2 HB.out 2 _ HC2.out
        have b2 := cA w2 HB.out 3 _ HC3.out
        go_wp2
        go_ret
        exact ⟨_, rfl, by rw [HL.out]; exact HO.out, HE.out _ HB.out⟩
end
end Go.Proofs.YtoaplkfmchphbaaDoor

namespace Go.Proofs.YtoaplkfmchphbaaDoor
open Go.RowKit
theorem tfl_len (na nb : Nat) (z f : Int) (h3 : na < 8) (h4 : nb < 8) (h5 : -32768 ≤ z) (h6 : z ≤ 65535) : (tfl na nb z f).length ≤ 7 := by
  have a1 := itoa_len (z := (na : Int)) (by omega) (by omega)
  have a2 := itoa_len (z := (nb : Int)) (by omega) (by omega)
  have a3 := itoa_len h5 h6
  unfold tfl
  split
  · simp; omega
  · split
    · simp; omega
    · omega
section
variable (w : World)
set_option maxRecDepth 100000 in
set_option maxHeartbeats 1000000 in
theorem tfl_any (no na nb : Nat) (z f : Int) (h3 : na < 8) (h4 : nb < 8) (h5 : -32768 ≤ z) (h6 : z ≤ 65535) (hT : Tb w) : Calls Tryd.prog 48 #[.agg #[.int .i64 (no : Int), .int .i64 (na : Int), .int .i64 (nb : Int), .int .i64 z], .int .i64 f] w fun e w' => e = .returned (.string ⟨(tfl na nb z f).toArray⟩) ∧ Below w.heap.size w w' := by
  have l1 := itoa_len (z := (na : Int)) (by omega) (by omega)
  have l2 := itoa_len (z := (nb : Int)) (by omega) (by omega)
  have l3 := itoa_len h5 h6
  have hS := hide (St.start no na nb z hT (Below.refl w.heap.size w))
  clear hT
  by_cases h0 : f = 0
  · have HL : Hid (tfl na nb z f = [114] ++ Lib.itoa (na : Int)) := hide (by simp [tfl, h0])
    subst h0
    go_enter Tryd.func48, Tryd.ntmps48
    go_wp2_with fail
    refine (Tryd.itoa (na : Int) (by omega) (by omega) _ hS.out.tb.pw).mono ?_
    rintro e w1 ⟨rfl, hb⟩
    have HB := hide ((hS.out.below hb).be)
    clear hb hS
    go_wp2
    go_ret
    exact ⟨by rw [HL.out, ← app_str]; rfl, HB.out⟩
  by_cases h1 : f = 1
  · have HL : Hid (tfl na nb z f = [114] ++ Lib.itoa (nb : Int)) := hide (by simp [tfl, h1])
    subst h1
    clear h0
    go_enter Tryd.func48, Tryd.ntmps48
    go_wp2_with fail
    refine (Tryd.itoa (nb : Int) (by omega) (by omega) _ hS.out.tb.pw).mono ?_
    rintro e w1 ⟨rfl, hb⟩
    have HB := hide ((hS.out.below hb).be)
    clear hb hS
    go_wp2
    go_ret
    exact ⟨by rw [HL.out, ← app_str]; rfl, HB.out⟩
  · have HL : Hid (tfl na nb z f = Lib.itoa z) := hide (by simp [tfl, h0, h1])
    go_enter Tryd.func48, Tryd.ntmps48
    go_wp2_with fail
    refine (Tryd.itoa z (by omega) (by omega) _ hS.out.tb.pw).mono ?_
    rintro e w1 ⟨rfl, hb⟩
    have HB := hide ((hS.out.below hb).be)
    clear hb hS
    go_wp2
    go_ret
    exact ⟨by rw [HL.out]; rfl, HB.out⟩
end
end Go.Proofs.YtoaplkfmchphbaaDoor

namespace Go.Proofs.YtoaplkfmchphbaaDoor
open Go.RowKit
theorem jn_cons (sep f : List UInt8) (r : List (List UInt8)) : jn sep (f :: r) = sep ++ f ++ jn [44, 32] r := by simp [jn]
/-- the list of fields, in a world -/
def Fd (W : World) (ao : Option Addr) (L : List Int) : Prop := ∀ j (h : j < L.length), ∃ g, ao = some ⟨g, 0, none⟩ ∧ W.cell? ⟨g, j, none⟩ = some (.int .i64 L[j])
theorem Fd.below {W W' : World} {ao : Option Addr} {L : List Int} (h : Fd W ao L) (hb : Below W.heap.size W W') : Fd W' ao L := fun j hj => by
  obtain ⟨g, h1, h2⟩ := h j hj
  exact ⟨g, h1, by rw [hb.cell (p := ⟨g, j, none⟩) (cell_lt h2)]; exact h2⟩
theorem Fd.of {W : World} {base : Nat} {v : Value} {n : Nat} {L : List Int} (h : W.ownsRow base 3 1 v n (nums L)) (hn : n = L.length) : ∃ ao c, v = .slice ao n c ∧ Fd W ao L := by
  rcases h.2 with ⟨h1, h2⟩ | ⟨g, cap, cur, h1, _, h3, _, _, _, h7⟩
  · exact ⟨none, 0, by rw [h1, h2], fun j hj => by omega⟩
  · refine ⟨_, _, h1, fun j hj => ⟨g, rfl, ?_⟩⟩
    rw [Lib.cell_of_heap h3]
    have e : (nums L)[j]? = some (.int .i64 L[j]) := by simp [nums, hj]
    rw [← h7, List.getElem?_take] at e
    split at e
    · rw [← Array.getElem?_toList]; exact e
    · simp at e
section
variable (w : World)
set_option maxRecDepth 100000 in
set_option maxHeartbeats 2000000 in
theorem tell_any (n : Nat) (hn : n < 4294967296) (hT : Tb w) : Calls Tryd.prog 34 #[.int .u32 (n : Int)] w fun e w' => e = .returned (.string ⟨(tl n).toArray⟩) ∧ Below w.heap.size w w' := by
  have d2 := dec_any w n hn hT.ops
  rcases hx : isI (parts n) with _ | _
  · obtain ⟨H, hH⟩ : ∃ H, hxA 7 n [] = H := ⟨_, rfl⟩
    have hH1 := hxA_len 7 n []
    rw [hH] at hH1
    simp only [List.length_nil] at hH1
    have HL : Hid (tl n = [46, 119, 111, 114, 100, 32, 48, 120] ++ Lib.repeatL [48] (8 - H.length) ++ H) := hide (by
      have e := hx_pad n hn
      rw [hH] at e
      unfold tl; rw [hx]
      simp only [Bool.false_eq_true, if_false]
      rw [← e, show ([48] : List UInt8) = List.replicate 1 48 from rfl, Lib.repeatL_replicate, Nat.mul_one, List.append_assoc])
    obtain ⟨e1, e2⟩ := decI_no rfl hx
    rw [e1, e2] at d2
    simp only [I.cells] at d2
    have hw : IntKind.u64.wrap (n : Int) = (n : Int) := wraps_u64 _ (by omega) (by omega)
    have HT := hide hT
    clear e1 e2 hx hT
    go_enter Tryd.func34, Tryd.ntmps34
    go_wp2_with fail
    refine d2.mono ?_
    rintro e w1 ⟨rfl, hb⟩
    have HB := hide hb
    have HT1 := hide (HT.out.below hb)
    clear hb d2
    go_wp2_with fail
    refine (fmt_any _ n hn (HT1.out.tz.below (bel1 _ _))).mono ?_
    rintro e w2 ⟨rfl, hb2⟩
    rw [hH]
    have HB2 := hide ((HB.out.alloc HB.out.size _).trans (hb2.mono (by have := HB.out.size; simp; omega)))
    have hl : (8 : Int) - (H.length : Int) = ((8 - H.length : Nat) : Int) := by omega
    clear hb2 HB HT1 HT hH
    go_wp2_with fail
    obtain ⟨R, hR⟩ : ∃ R, Lib.repeatL [48] (8 - H.length) = R := ⟨_, rfl⟩
    have lR : R.length ≤ 8 := by rw [← hR, Lib.repeatL_length]; simp
    rw [hR] at HL
    have HR : Hid (Lib.repeatL (⟨#[48]⟩ : ByteArray).data.toList (8 - H.length) = R) := hide hR
    clear hR
    refine (Tryd.repeats ⟨#[48]⟩ (8 - H.length) _ (by omega) (by simp [ByteArray.size]; omega)).mono ?_
    rintro e w3 ⟨rfl, hb3⟩
    rw [HR.out]
    have HB3 := hide (HB2.out.trans (hb3.mono HB2.out.size))
    clear hb3 HB2 HR hl
    go_wp2
    go_ret
    exact ⟨by rw [HL.out, ← app_str, ← app_str]; rfl, HB3.out⟩
  · obtain ⟨no, na, nb, z, hp, h1, h2, h3, h4, h5, h6⟩ := parts_of hx
    have HL : Hid (tl n = nm no ++ jn [32] ((fl (uA no) (uB no) (kd no)).map (tfl na nb z))) := hide (by unfold tl; rw [hx, hp, flds_fl]; simp)
    obtain ⟨e1, e2⟩ := decI_yes hp (hp ▸ hx)
    rw [e1, e2] at d2
    simp only [I.cells] at d2
    clear e1 e2 hx hp
    have HT := hide hT
    clear hT
    go_enter Tryd.func34, Tryd.ntmps34
    go_wp2_with fail
    refine d2.mono ?_
    rintro e w1 ⟨rfl, hb⟩
    have HB := hide hb
    have HT1 := HT.out.below hb
    have hlt := HT1.ops.lt
    have c0 := HT1.ops.name h2
    have c1 := HT1.ops.a no h2
    have c2 := HT1.ops.b no h2
    have c3 := HT1.ops.k no h2
    have HT2 := hide HT1
    have hno : (no : Int) < 27 := by omega
    have l0 := nm_len no
    clear hb d2 HT1
    generalize nm no = nn at *
    generalize uA no = ua at *
    generalize uB no = ub at *
    generalize kd no = kk at *
    go_wp2_with fail
    refine (fields_any _ _ ua ub kk).mono ?_
    rintro e w2 ⟨v, rfl, ho, hb2⟩
    obtain ⟨ao, cc, rfl, hF⟩ := Fd.of ho rfl
    obtain ⟨L, hL⟩ : ∃ L, fl ua ub kk = L := ⟨_, rfl⟩
    have hL3 : L.length ≤ 3 := by
      rw [← hL]; unfold fl
      cases ua <;> cases ub <;> (by_cases e : kk = 0 <;> simp [e])
    rw [hL] at hF HL ⊢
    have hS := ((St.start no na nb z HT2.out HB.out).below (bel1 _ _)).below hb2
    have HS := hide hS
    have HF := hide hF
    clear hS hF ho hb2 hL c0 c1 c2 c3 HT2 HB HT
    generalize w1.heap.size = g at *
    go_upto_region 9 with fail
    go_loopw [7, 8, 37] (fun t s k wr => ∃ (j : Nat) (T S : List UInt8), j ≤ L.length ∧ k = .int .i64 (j : Int) ∧ t = .string ⟨T.toArray⟩ ∧ s = .string ⟨S.toArray⟩ ∧ T ++ jn S ((L.drop j).map (tfl na nb z)) = nn ++ jn [32] (L.map (tfl na nb z)) ∧ T.length ≤ 4 + 9 * j ∧ S.length ≤ 2 ∧ St w wr g no na nb z ∧ Fd wr ao L) (fun _ _ k _ => L.length - (intOf k).toNat)
    case atStart => exact ⟨0, nn, [32], by omega, rfl, rfl, rfl, rfl, by omega, by simp, HS.out, HF.out⟩
    case round =>
    obtain ⟨j, T, S, hj, rfl, rfl, rfl, hT, hTl, hSl, hS, hF⟩ := hrel
    have HE := hide hT
    clear HS HF hT
    by_cases hlt2 : j < L.length
    · obtain ⟨gf, rfl, cf⟩ := hF j hlt2
      have hd : (j : Int) < (L.length : Int) := by omega
      have d0 := hS.c0
      have d1 := hS.c1
      have d2 := hS.c2
      have d3 := hS.c3
      have hl4 := tfl_len na nb z L[j] h3 h4 h5 h6
      have HE2 : Hid (T ++ (S ++ tfl na nb z L[j]) ++ jn [44, 32] ((L.drop (j + 1)).map (tfl na nb z)) = nn ++ jn [32] (L.map (tfl na nb z))) := hide (by
        rw [← HE.out, List.drop_eq_getElem_cons hlt2, List.map_cons, jn_cons]; simp)
      generalize L[j] = f at *
      have HS := hide hS
      have HF := hide hF
      clear HE hS hF
      go_wp2_with fail
      refine (tfl_any _ no na nb z f h3 h4 h5 h6 HS.out.tb).mono ?_
      rintro e w3 ⟨rfl, hb3⟩
      have HS3 := hide (HS.out.below hb3)
      have HF3 := hide (HF.out.below hb3)
      clear hb3 HS HF d0 d1 d2 d3 cf
      go_wp2
      refine ⟨⟨j + 1, T ++ (S ++ tfl na nb z f), [44, 32], by omega, by simp, by rw [app_str, app_str], rfl, HE2.out, by simp; omega, by simp, HS3.out, HF3.out⟩, ?_⟩
      simp [intOf]
      omega
    · obtain rfl : j = L.length := by omega
      have HT3 : Hid (T = tl n) := hide (by rw [HL.out, ← HE.out]; simp [jn])
      have HS := hide hS
      clear HE hS hF
      go_wp2
      go_ret
      exact ⟨by rw [← HT3.out]; rfl, HS.out.be⟩
end
end Go.Proofs.YtoaplkfmchphbaaDoor
