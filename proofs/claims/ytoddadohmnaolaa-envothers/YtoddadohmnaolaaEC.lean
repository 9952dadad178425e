import Derived.Test.YtoddadohmnaolaaEB
import Derived.Maps.AppendAt
import Derived.OwnWalk
namespace Go.Proofs.Ytoddadohmnaolaa
open Go.RowKit

/-- a number and all above it -/
def Line (rs : List (Option Er)) : Int → List Int → Prop
  | e, [] => look rs e = none
  | e, z :: l => z = e ∧ ∃ r : Er, look rs e = some r ∧ Line rs r.pa l
theorem line_none {rs : List (Option Er)} {e : Int} (h : look rs e = none) : Line rs e [] := h
theorem line_some {rs : List (Option Er)} {e : Int} {r : Er} {l : List Int} (h : look rs e = some r) (hl : Line rs r.pa l) : Line rs e (e :: l) := ⟨rfl, r, h, hl⟩
theorem line_cases {rs : List (Option Er)} {e : Int} {l : List Int} (h : Line rs e l) : (look rs e = none ∧ l = []) ∨ ∃ (r : Er) (l' : List Int), look rs e = some r ∧ l = e :: l' ∧ Line rs r.pa l' := by
  cases l with
  | nil => exact .inl ⟨h, rfl⟩
  | cons z l =>
    obtain ⟨rfl, r, h1, h2⟩ := h
    exact .inr ⟨r, l, h1, rfl, h2⟩
def nums (l : List Int) : List Value := l.map (fun k => Value.int .i64 k)
theorem nums_len (l : List Int) : (nums l).length = l.length := by simp [nums]
def slLen : Value → Nat | .slice _ n _ => n | _ => 0
theorem own_below {w w' : World} {base : Nat} {e : TypeId} {size : Nat} {v : Value} {n : Nat} {xs : List Value} (h : w.ownsRow base e size v n xs) (hb : Below w.heap.size w w') : w'.ownsRow base e size v n xs := by
  obtain ⟨h1, h2 | ⟨g, cap, cur, h2, h3, h4, h5⟩⟩ := h
  · exact ⟨h1, .inl h2⟩
  · exact ⟨h1, .inr ⟨g, cap, cur, h2, h3, (hb.block g (Array.getElem?_eq_some_iff.1 h4).1).trans h4, h5⟩⟩
theorem own_shape {w : World} {base : Nat} {e : TypeId} {size : Nat} {v : Value} {n : Nat} {xs : List Value} (h : w.ownsRow base e size v n xs) : ∃ a c, v = .slice a n c := by
  obtain ⟨h1, ⟨h2, h3⟩ | ⟨g, cap, cur, h2, _⟩⟩ := h
  · exact ⟨none, 0, by rw [h2, h3]⟩
  · exact ⟨_, _, h2⟩
theorem info3' : ∃ i, Try.prog.info? 3 = some i ∧ i.zero = some (.int .i64 0) ∧ i.size = 1 ∧ i.bytes = 8 := info_parts (by kernel_rfl)
set_option maxRecDepth 8000 in
set_option maxHeartbeats 3200000 in
theorem line_any (w : World) (F : Nat → Prop) (T : Nat) (rs : List (Option Er)) (last : Int) (h : Et w F T rs last) (e : Int) (l : List Int) (hL : Line rs e l) (hl : l.length ≤ 16) :
    Calls Try.prog 36 #[.pointer (some ⟨T, 0, none⟩), .int .i64 e] w fun x w' => ∃ v, x = .returned v ∧ w'.ownsRow w.heap.size 3 1 v l.length (nums l) ∧ Below w.heap.size w w' := by
  obtain ⟨S, G, m, h⟩ := h
  obtain ⟨i3, hi, hz, hs, hb⟩ := info3'
  have HH := hide h
  have c0 := h.cell.1
  have HG := hide (getL_any _ G S m h.tab e)
  have HL := hide hL
  obtain ⟨P, hP⟩ : ∃ P, ptr (look m e) = P := ⟨_, rfl⟩
  obtain ⟨Y, hY⟩ : ∃ Y, (look m e).isSome = Y := ⟨_, rfl⟩
  rw [hP, hY] at HG
  have HP := hide hP
  have HY := hide hY
  clear h hL hP hY
  go_enter Try.func36, Try.ntmps36
  go_wp2_with fail
  refine HG.out.mono ?_
  rintro e1 w1 ⟨rfl, rfl⟩
  go_wp2_with fail
  go_loopw [1, 5, 6, 7] (fun x u p q wr => ∃ (f : Int) (dn rest : List Int), x = .int .i64 f ∧ p = ptr (look m f) ∧ q = .bool (look m f).isSome ∧ l = dn ++ rest ∧ Hid (Line rs f rest) ∧ Hid (wr.ownsRow w1.heap.size 3 1 u dn.length (nums dn)) ∧ Hid (Below w1.heap.size w1 wr)) (fun _ u _ _ _ => 16 - slLen u)
  case atStart => exact ⟨e, [], l, rfl, HP.out.symm, by rw [HY.out], rfl, HL, ⟨rfl, .inl ⟨rfl, rfl⟩⟩, Below.refl _ _⟩
  case round =>
  obtain ⟨f, dn, rest, rfl, rfl, rfl, hdn, KL, KO, KB⟩ := hrel
  have HDN := hide hdn
  clear hdn HG c0
  have HR1 := hide (HH.out.below KB.out)
  have c0 := HR1.out.cell.1
  rcases HR1.out.cases f with ⟨h1, h2⟩ | ⟨k, b, r, rfl, hm, h3, h4, h5, hR⟩
  · have hrest : rest = [] := by
      have := KL.out
      rcases line_cases this with ⟨_, h⟩ | ⟨_, _, h, _⟩
      · exact h
      · rw [h2] at h; cases h
    subst hrest
    have HF : Hid (wr.ownsRow w1.heap.size 3 1 u5 l.length (nums l)) := hide (by rw [HDN.out, List.append_nil]; exact KO.out)
    rw [h1]
    clear h1 h2 HDN KO
    simp only [ptr, Option.isSome_none]
    go_wp2
    go_ret
    exact ⟨_, rfl, HF.out, KB.out⟩
  · obtain ⟨rest', hrest, HLn⟩ : ∃ rest', rest = (k : Int) :: rest' ∧ Hid (Line rs r.pa rest') := by
      have := KL.out
      rcases line_cases this with ⟨h, _⟩ | ⟨_, l', h, h', hl⟩
      · rw [h5] at h; cases h
      · rw [h5] at h; cases h; exact ⟨l', h', hide hl⟩
    have hle : dn.length + 1 ≤ 16 := by
      have := congrArg List.length HDN.out
      rw [hrest] at this; simp at this; omega
    obtain ⟨L, hLn⟩ : ∃ L, dn.length = L := ⟨_, rfl⟩
    rw [hLn] at hle KO
    have HLN := hide hLn
    have HRST := hide hrest
    have hkz := KB.out.size
    obtain ⟨au, cu, rfl⟩ := own_shape KO.out
    have HRb := hide hR
    have HM := hide hm
    have h3' := hide h3
    clear hLn hrest hR h5 h3 hm
    rw [h4]
    clear h4
    simp only [ptr, Option.isSome_some]
    go_upto_region 6 with (at_builtin; refine wpList_append_own_at _ rfl _ _ 22 rfl w1.heap.size 3 i3 (.int .i64 0) 1 8 Try.underlying22 hi hz hs hb rfl (by decide) (.slice au L cu) L (nums dn) rfl (KO.out.alloc _) ⟨wr.heap.size, 0, none⟩ 1 1 [.int .i64 (k : Int)] rfl rfl (cell_one_new _ _ _) (by simp [Value.oneCell']) (by unfold maxLen; omega) (by omega) (by simp; omega) ?_; intro v2 w2 ho2 hg2 _ _)
    have HO2 : Hid (w2.ownsRow w1.heap.size 3 1 v2 (dn ++ [(k : Int)]).length (nums (dn ++ [(k : Int)]))) := by
      refine hide ?_
      have h9 := ho2
      simpa [nums, HLN.out] using h9
    have HB2 : Hid (Below w1.heap.size w1 w2) := hide ((KB.out.alloc hkz _).grown hg2 (by simp; omega) (fun j hj => (KO.out.lt j hj).1))
    have HR2 := hide (HH.out.below HB2.out)
    have c1 := HR2.out.cell.1
    obtain ⟨r2, h6, h7⟩ := HR2.out.held k b HM.out
    obtain rfl : r = r2 := by
      obtain ⟨r3, h8, h9⟩ := HR1.out.held k b HM.out
      rw [h6] at h8; cases h8
      exact Option.some.inj (Option.some.inj (h3'.out.symm.trans h6))
    have d1 := h7.get (j := 1) rfl
    have HG := hide (getL_any _ G S m HR2.out.tab r.pa)
    obtain ⟨P2, hP2⟩ : ∃ P, ptr (look m r.pa) = P := ⟨_, rfl⟩
    obtain ⟨Y2, hY2⟩ : ∃ Y, (look m r.pa).isSome = Y := ⟨_, rfl⟩
    rw [hP2, hY2] at HG
    have HP2 := hide hP2
    have HY2 := hide hY2
    have HS2 := hide (own_shape ho2)
    clear hP2 hY2 ho2 hg2 h6 h7 c0
    go_wp2_with fail
    refine HG.out.mono ?_
    rintro e1 w3 ⟨rfl, rfl⟩
    go_wp2
    go_roundw
    case rel =>
      have HD2 : Hid (l = (dn ++ [(k : Int)]) ++ rest') := hide (by rw [HDN.out, HRST.out]; simp)
      first
        | exact ⟨r.pa, dn ++ [(k : Int)], rest', rfl, HP2.out.symm, by rw [HY2.out], HD2.out, HLn, HO2, HB2⟩
        | ((repeat apply Exists.intro); refine ⟨?_, rfl⟩; exact ⟨r.pa, dn ++ [(k : Int)], rest', rfl, HP2.out.symm, by rw [HY2.out], HD2.out, HLn, HO2, HB2⟩)
    case measure =>
      obtain ⟨a9, c9, e9⟩ := HS2.out
      simp [e9, slLen]; omega
end Go.Proofs.Ytoddadohmnaolaa
