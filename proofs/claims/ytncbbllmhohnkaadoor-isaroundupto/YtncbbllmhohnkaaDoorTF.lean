import Derived.Test.YtncbbllmhohnkaaDoorTD
import Derived.Laws.AppendOwn
namespace Go.Proofs.YtncbbllmhohnkaaDoor
open Go.RowKit
def nums (l : List Int) : List Value := l.map (Value.int .i64)
theorem cell_one_new (w : World) (v : Value) (t : TypeId) : ∀ j u, [v][j]? = some u → (w.alloc (.cells #[v] t)).cell? ((⟨w.heap.size, 0, none⟩ : Addr).add j) = some u := by
  intro j u h
  match j, h with
  | 0, h =>
    simp at h
    subst h
    rw [add0, World.cell?_alloc_new]; rfl
theorem own_shape {w : World} {base : Nat} {e : TypeId} {size : Nat} {v : Value} {n : Nat} {xs : List Value} (h : w.ownsRow base e size v n xs) : ∃ a c, v = .slice a n c := by
  rcases h.2 with ⟨h1, h2⟩ | ⟨g, cap, cur, h1, _⟩
  · exact ⟨none, 0, by rw [h1, h2]⟩
  · exact ⟨_, _, h1⟩
/-- the fields that an operation has: 0, 1, 2 -/
def fl (a b : Bool) (k : Nat) : List Int := (if a then [0] else []) ++ (if b then [1] else []) ++ (if k = 0 then [] else [2])
/-- a field's text -/
def tfl (na nb : Nat) (z f : Int) : List UInt8 := if f = 0 then 114 :: Lib.itoa (na : Int) else if f = 1 then 114 :: Lib.itoa (nb : Int) else Lib.itoa z
theorem flds_fl (no na nb : Nat) (z : Int) : flds ⟨(no : Int), (na : Int), (nb : Int), z⟩ = (fl (uA no) (uB no) (kd no)).map (tfl na nb z) := by
  unfold flds fl
  simp only [Int.toNat_natCast]
  cases uA no <;> cases uB no <;> (by_cases e : kd no = 0 <;> simp [e, tfl])
theorem info_int : ∃ i, Tryd.prog.info? 3 = some i ∧ i.zero = some (.int .i64 0) ∧ i.size = 1 ∧ i.bytes = 8 := info_parts (by kernel_rfl)
section
variable (w : World)
set_option maxRecDepth 100000 in
set_option maxHeartbeats 2000000 in
theorem fields_any (s : ByteArray) (ua ub : Bool) (k : Nat) : Calls Tryd.prog 47 #[.agg #[.string s, .bool ua, .bool ub, .int .i64 (k : Int)]] w fun e w' => ∃ v, e = .returned v ∧ w'.ownsRow (w.heap.size + 1) 3 1 v (fl ua ub k).length (nums (fl ua ub k)) ∧ Below w.heap.size w w' := by
  obtain ⟨i3, hi, hz, hs, hb⟩ := info_int
  obtain ⟨W0, hW0⟩ : ∃ W0, W0 = w.alloc (.cells #[.string s, .bool ua, .bool ub, .int .i64 (k : Int)] 91) := ⟨_, rfl⟩
  have hN : W0.heap.size = w.heap.size + 1 := by rw [hW0]; simp
  have HC1 : Hid (W0.cell? ⟨w.heap.size, 1, none⟩ = some (.bool ua)) := hide (by rw [hW0, World.cell?_alloc_new]; rfl)
  have HC2 : Hid (W0.cell? ⟨w.heap.size, 2, none⟩ = some (.bool ub)) := hide (by rw [hW0, World.cell?_alloc_new]; rfl)
  have HC3 : Hid (W0.cell? ⟨w.heap.size, 3, none⟩ = some (.int .i64 (k : Int))) := hide (by rw [hW0, World.cell?_alloc_new]; rfl)
  have cA : ∀ V, Below (w.heap.size + 1) W0 V → ∀ j v, W0.cell? ⟨w.heap.size, j, none⟩ = some v → V.cell? ⟨w.heap.size, j, none⟩ = some v := fun V hV j v h => by rw [hV.cell (p := ⟨w.heap.size, j, none⟩) (Nat.lt_succ_self _)]; exact h
  have HZ : Hid (w.heap.size + 1 ≤ W0.heap.size) := hide (by omega)
  have HE : Hid (∀ V, Below (w.heap.size + 1) W0 V → Below w.heap.size w V) := hide (fun V hV => (hW0 ▸ bel1 w _ : Below w.heap.size w W0).trans (hV.mono (by omega)))
  have HO : Hid (W0.ownsRow (w.heap.size + 1) 3 1 (.slice none 0 0) 0 (nums [])) := hide ⟨rfl, .inl ⟨rfl, rfl⟩⟩
  have HB : Hid (Below (w.heap.size + 1) W0 W0) := hide (Below.refl _ _)
  have hsz := HZ.out
  have b0 := HC1.out
  have b1 := HC2.out
  have b2 := HC3.out
  go_enter Tryd.func47, Tryd.ntmps47
  go_upto_region 1 with fail
  rw [← hW0]
  clear hW0 hN
  rcases ua with _ | _
  · go_upto_region 4 with fail
    rcases ub with _ | _
    · go_upto_region 6 with fail
      by_cases hk : k = 0
      · have HL : Hid (fl false false k = []) := hide (by simp [fl, hk])
        subst hk
        go_wp2
        go_ret
        exact ⟨_, rfl, by rw [HL.out]; exact HO.out, HE.out _ HB.out⟩
      · have HL : Hid (fl false false k = [2]) := hide (by simp [fl, hk])
        have hk2 : ¬ (k : Int) = 0 := by omega
        clear hk
        go_upto_region 8 with (at_builtin; refine wpList_append_own _ rfl _ _ 22 rfl (w.heap.size + 1) 3 i3 (.int .i64 0) 1 8 Tryd.underlying22 hi hz hs hb rfl (by decide) _ 0 (nums []) rfl (HO.out.alloc _) ⟨_, 0, none⟩ 1 1 [.int .i64 2] rfl rfl (cell_one_new _ _ _) (by simp [Value.oneCell']) (by unfold maxLen; omega) (by omega) (by simp; omega) ?_; intro v2 w2 ho2 hg2 _; obtain ⟨au, cu, rfl⟩ := own_shape ho2)
        have HO2 : Hid (w2.ownsRow (w.heap.size + 1) 3 1 (.slice au 1 cu) 1 (nums [2])) := hide (by simpa [nums] using ho2)
        have HB2 : Hid (Below (w.heap.size + 1) W0 w2) := hide ((HB.out.alloc hsz _).grown hg2 (by simp; omega) (fun j hj => (HO.out.lt j hj).1))
        clear ho2 hg2 HO HB b0 b1 b2 hsz
        have HO := HO2
        have HB := HB2
        clear HO2 HB2
        have hsz := Nat.le_trans HZ.out HB.out.size
        have b0 := cA w2 HB.out 1 _ HC1.out
        have b1 := cA w2 HB.out 2 _ HC2.out
        have b2 := cA w2 HB.out 3 _ HC3.out
        go_wp2
        go_ret
        exact ⟨_, rfl, by rw [HL.out]; exact HO.out, HE.out _ HB.out⟩
    · go_upto_region 6 with (at_builtin; refine wpList_append_own _ rfl _ _ 22 rfl (w.heap.size + 1) 3 i3 (.int .i64 0) 1 8 Tryd.underlying22 hi hz hs hb rfl (by decide) _ 0 (nums []) rfl (HO.out.alloc _) ⟨_, 0, none⟩ 1 1 [.int .i64 1] rfl rfl (cell_one_new _ _ _) (by simp [Value.oneCell']) (by unfold maxLen; omega) (by omega) (by simp; omega) ?_; intro v2 w2 ho2 hg2 _; obtain ⟨au, cu, rfl⟩ := own_shape ho2)
      have HO2 : Hid (w2.ownsRow (w.heap.size + 1) 3 1 (.slice au 1 cu) 1 (nums [1])) := hide (by simpa [nums] using ho2)
      have HB2 : Hid (Below (w.heap.size + 1) W0 w2) := hide ((HB.out.alloc hsz _).grown hg2 (by simp; omega) (fun j hj => (HO.out.lt j hj).1))
      clear ho2 hg2 HO HB b0 b1 b2 hsz
      have HO := HO2
      have HB := HB2
      clear HO2 HB2
      have hsz := Nat.le_trans HZ.out HB.out.size
      have b0 := cA w2 HB.out 1 _ HC1.out
      have b1 := cA w2 HB.out 2 _ HC2.out
      have b2 := cA w2 HB.out 3 _ HC3.out
      by_cases hk : k = 0
      · have HL : Hid (fl false true k = [1]) := hide (by simp [fl, hk])
        subst hk
        go_wp2
        go_ret
        exact ⟨_, rfl, by rw [HL.out]; exact HO.out, HE.out _ HB.out⟩
      · have HL : Hid (fl false true k = [1, 2]) := hide (by simp [fl, hk])
        have hk2 : ¬ (k : Int) = 0 := by omega
        clear hk
        go_upto_region 8 with (at_builtin; refine wpList_append_own _ rfl _ _ 22 rfl (w.heap.size + 1) 3 i3 (.int .i64 0) 1 8 Tryd.underlying22 hi hz hs hb rfl (by decide) _ 1 (nums [1]) rfl (HO.out.alloc _) ⟨_, 0, none⟩ 1 1 [.int .i64 2] rfl rfl (cell_one_new _ _ _) (by simp [Value.oneCell']) (by unfold maxLen; omega) (by omega) (by simp; omega) ?_; intro v2 w2 ho2 hg2 _; obtain ⟨au, cu, rfl⟩ := own_shape ho2)
        have HO2 : Hid (w2.ownsRow (w.heap.size + 1) 3 1 (.slice au 2 cu) 2 (nums [1, 2])) := hide (by simpa [nums] using ho2)
        have HB2 : Hid (Below (w.heap.size + 1) W0 w2) := hide ((HB.out.alloc hsz _).grown hg2 (by simp; omega) (fun j hj => (HO.out.lt j hj).1))
        clear ho2 hg2 HO HB b0 b1 b2 hsz
        have HO := HO2
        have HB := HB2
        clear HO2 HB2
        have hsz := Nat.le_trans HZ.out HB.out.size
        have b0 := cA w2 HB.out 1 _ HC1.out
        have b1 := cA w2 HB.out 2 _ HC2.out
        have b2 := cA w2 HB.out 3 _ HC3.out
        go_wp2
        go_ret
        exact ⟨_, rfl, by rw [HL.out]; exact HO.out, HE.out _ HB.out⟩
  · go_upto_region 4 with (at_builtin; refine wpList_append_own _ rfl _ _ 22 rfl (w.heap.size + 1) 3 i3 (.int .i64 0) 1 8 Tryd.underlying22 hi hz hs hb rfl (by decide) _ 0 (nums []) rfl (HO.out.alloc _) ⟨_, 0, none⟩ 1 1 [.int .i64 0] rfl rfl (cell_one_new _ _ _) (by simp [Value.oneCell']) (by unfold maxLen; omega) (by omega) (by simp; omega) ?_; intro v2 w2 ho2 hg2 _; obtain ⟨au, cu, rfl⟩ := own_shape ho2)
    have HO2 : Hid (w2.ownsRow (w.heap.size + 1) 3 1 (.slice au 1 cu) 1 (nums [0])) := hide (by simpa [nums] using ho2)
    have HB2 : Hid (Below (w.heap.size + 1) W0 w2) := hide ((HB.out.alloc hsz _).grown hg2 (by simp; omega) (fun j hj => (HO.out.lt j hj).1))
    clear ho2 hg2 HO HB b0 b1 b2 hsz
    have HO := HO2
    have HB := HB2
    clear HO2 HB2
    have hsz := Nat.le_trans HZ.out HB.out.size
    have b0 := cA w2 HB.out 1 _ HC1.out
    have b1 := cA w2 HB.out 2 _ HC2.out
    have b2 := cA w2 HB.out 3 _ HC3.out
    rcases ub with _ | _
    · go_upto_region 6 with fail
      by_cases hk : k = 0
      · have HL : Hid (fl true false k = [0]) := hide (by simp [fl, hk])
        subst hk
        go_wp2
        go_ret
        exact ⟨_, rfl, by rw [HL.out]; exact HO.out, HE.out _ HB.out⟩
      · have HL : Hid (fl true false k = [0, 2]) := hide (by simp [fl, hk])
        have hk2 : ¬ (k : Int) = 0 := by omega
        clear hk
        go_upto_region 8 with (at_builtin; refine wpList_append_own _ rfl _ _ 22 rfl (w.heap.size + 1) 3 i3 (.int .i64 0) 1 8 Tryd.underlying22 hi hz hs hb rfl (by decide) _ 1 (nums [0]) rfl (HO.out.alloc _) ⟨_, 0, none⟩ 1 1 [.int .i64 2] rfl rfl (cell_one_new _ _ _) (by simp [Value.oneCell']) (by unfold maxLen; omega) (by omega) (by simp; omega) ?_; intro v2 w2 ho2 hg2 _; obtain ⟨au, cu, rfl⟩ := own_shape ho2)
        have HO2 : Hid (w2.ownsRow (w.heap.size + 1) 3 1 (.slice au 2 cu) 2 (nums [0, 2])) := hide (by simpa [nums] using ho2)
        have HB2 : Hid (Below (w.heap.size + 1) W0 w2) := hide ((HB.out.alloc hsz _).grown hg2 (by simp; omega) (fun j hj => (HO.out.lt j hj).1))
        clear ho2 hg2 HO HB b0 b1 b2 hsz
        have HO := HO2
        have HB := HB2
        clear HO2 HB2
        have hsz := Nat.le_trans HZ.out HB.out.size
        have b0 := cA w2 HB.out 1 _ HC1.out
        have b1 := cA w2 HB.out 2 _ HC2.out
        have b2 := cA w2 HB.out 3 _ HC3.out
        go_wp2
        go_ret
        exact ⟨_, rfl, by rw [HL.out]; exact HO.out, HE.out _ HB.out⟩
    · go_upto_region 6 with (at_builtin; refine wpList_append_own _ rfl _ _ 22 rfl (w.heap.size + 1) 3 i3 (.int .i64 0) 1 8 Tryd.underlying22 hi hz hs hb rfl (by decide) _ 1 (nums [0]) rfl (HO.out.alloc _) ⟨_, 0, none⟩ 1 1 [.int .i64 1] rfl rfl (cell_one_new _ _ _) (by simp [Value.oneCell']) (by unfold maxLen; omega) (by omega) (by simp; omega) ?_; intro v2 w2 ho2 hg2 _; obtain ⟨au, cu, rfl⟩ := own_shape ho2)
      have HO2 : Hid (w2.ownsRow (w.heap.size + 1) 3 1 (.slice au 2 cu) 2 (nums [0, 1])) := hide (by simpa [nums] using ho2)
      have HB2 : Hid (Below (w.heap.size + 1) W0 w2) := hide ((HB.out.alloc hsz _).grown hg2 (by simp; omega) (fun j hj => (HO.out.lt j hj).1))
      clear ho2 hg2 HO HB b0 b1 b2 hsz
      have HO := HO2
      have HB := HB2
      clear HO2 HB2
      have hsz := Nat.le_trans HZ.out HB.out.size
      have b0 := cA w2 HB.out 1 _ HC1.out
      have b1 := cA w2 HB.out 2 _ HC2.out
      have b2 := cA w2 HB.out 3 _ HC3.out
      by_cases hk : k = 0
      · have HL : Hid (fl true true k = [0, 1]) := hide (by simp [fl, hk])
        subst hk
        go_wp2
        go_ret
        exact ⟨_, rfl, by rw [HL.out]; exact HO.out, HE.out _ HB.out⟩
      · have HL : Hid (fl true true k = [0, 1, 2]) := hide (by simp [fl, hk])
        have hk2 : ¬ (k : Int) = 0 := by omega
        clear hk
        go_upto_region 8 with (at_builtin; refine wpList_append_own _ rfl _ _ 22 rfl (w.heap.size + 1) 3 i3 (.int .i64 0) 1 8 Tryd.underlying22 hi hz hs hb rfl (by decide) _ 2 (nums [0, 1]) rfl (HO.out.alloc _) ⟨_, 0, none⟩ 1 1 [.int .i64 2] rfl rfl (cell_one_new _ _ _) (by simp [Value.oneCell']) (by unfold maxLen; omega) (by omega) (by simp; omega) ?_; intro v2 w2 ho2 hg2 _; obtain ⟨au, cu, rfl⟩ := own_shape ho2)
        have HO2 : Hid (w2.ownsRow (w.heap.size + 1) 3 1 (.slice au 3 cu) 3 (nums [0, 1, 2])) := hide (by simpa [nums] using ho2)
        have HB2 : Hid (Below (w.heap.size + 1) W0 w2) := hide ((HB.out.alloc hsz _).grown hg2 (by simp; omega) (fun j hj => (HO.out.lt j hj).1))
        clear ho2 hg2 HO HB b0 b1 b2 hsz
        have HO := HO2
        have HB := HB2
        clear HO2 HB2
        have hsz := Nat.le_trans HZ.out HB.out.size
        have b0 := cA w2 HB.out 1 _ HC1.out
        have b1 := cA w2 HB.out 2 _ HC2.out
        have b2 := cA w2 HB.out 3 _ HC3.out
        go_wp2
        go_ret
        exact ⟨_, rfl, by rw [HL.out]; exact HO.out, HE.out _ HB.out⟩
end
end Go.Proofs.YtncbbllmhohnkaaDoor
