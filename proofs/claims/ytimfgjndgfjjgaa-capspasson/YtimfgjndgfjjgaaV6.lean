import Derived.Test.YtimfgjndgfjjgaaV5
import Derived.Test.YtimfgjndgfjjgaaW3
namespace Go.Proofs.Ytimfgjndgfjjgaa
open Go.RowKit

section
variable {P : Program} {ops : Array Oper} {Q : Exit → Act → World → Prop} {S : World → Prop} {fuel : Nat} {listed : Array Bool} {a : Act} {w : World}
/-- a store of a whole struct, the one operation that may come up -/
theorem held_store (i : Nat) {o : Oper} (hr : Region.ready .any ops listed = [i]) (ho : ops[i]? = some o) (hw : Region.wanted o (yielded ops a.tmps) = true) {ty : TypeId} {x y : Operand} (hop : o.op = .store ty x y) (hd : o.dst = none)
    {b off : Nat} {cells : List Value} (hx : a.eval x = .pointer (some ⟨b, off, none⟩)) (hy : a.eval y = .agg cells.toArray) (ht : w.there b off cells.length) (hi : (P.info? ty).map (·.size) = some cells.length) (h1 : ∀ v ∈ cells, v.oneCell' = true)
    (hS : S (w.setCells b off cells)) (h : wpAnyH P .any ops Q S fuel (listed.setIfInBounds i true) a (w.setCells b off cells)) : wpAnyH P .any ops Q S (fuel + 1) listed a w := by
  refine wpAnyH_ready hr (by simp) (AllReadyH.cons ho (fun K hK => ?_) AllReadyH.nil)
  rw [if_pos hw]
  refine wp_store_mid ty x y hop b off cells.toArray hx hy (by simpa using ht) (by simpa using hi) (all_oneCell_toArray h1) ?_
  rw [hd]
  exact hK.out _ _ hS (fun _ => h)
/-- a call, the one operation that may come up -/
theorem held_call (i : Nat) {o : Oper} (hr : Region.ready .any ops listed = [i]) (ho : ops[i]? = some o) (hw : Region.wanted o (yielded ops a.tmps) = true)
    (h : ∀ K : Act → World → Prop, (∀ a w, S w → wpAnyH P .any ops Q S fuel (listed.setIfInBounds i true) a w → K a w) → Oper.wp P o a w K Q) : wpAnyH P .any ops Q S (fuel + 1) listed a w := by
  refine wpAnyH_ready hr (by simp) (AllReadyH.cons ho (fun K hK => ?_) AllReadyH.nil)
  rw [if_pos hw]
  exact h K (fun a w hS hh => hK.out a w hS (fun _ => hh))
/-- two operations that may come up -/
theorem held_two (i j : Nat) {o1 o2 : Oper} (hr : Region.ready .any ops listed = [i, j]) (ho1 : ops[i]? = some o1) (ho2 : ops[j]? = some o2) (hw1 : Region.wanted o1 (yielded ops a.tmps) = true) (hw2 : Region.wanted o2 (yielded ops a.tmps) = true)
    (h1 : ∀ K : Act → World → Prop, (∀ a w, S w → wpAnyH P .any ops Q S fuel (listed.setIfInBounds i true) a w → K a w) → Oper.wp P o1 a w K Q)
    (h2 : ∀ K : Act → World → Prop, (∀ a w, S w → wpAnyH P .any ops Q S fuel (listed.setIfInBounds j true) a w → K a w) → Oper.wp P o2 a w K Q) : wpAnyH P .any ops Q S (fuel + 1) listed a w := by
  refine wpAnyH_ready hr (by simp) (AllReadyH.cons ho1 (fun K hK => ?_) (AllReadyH.cons ho2 (fun K hK => ?_) AllReadyH.nil))
  · rw [if_pos hw1]
    exact h1 K (fun a w hS hh => hK.out a w hS (fun _ => hh))
  · rw [if_pos hw2]
    exact h2 K (fun a w hS hh => hK.out a w hS (fun _ => hh))
theorem held_load (i : Nat) {o : Oper} (hs : Region.noSelect ops = true) (hf : Region.free .any ops listed i = true) (hr : (Region.ready .any ops listed).contains i = true) (ho : ops[i]? = some o) (hw : Region.wanted o (yielded ops a.tmps) = true) {ty : TypeId} {x : Operand} (hop : o.op = .load ty x)
    {b off : Nat} (cs : List Value) {d : TypeDesc} (hx : a.eval x = .pointer (some ⟨b, off, none⟩)) (hS : ∀ w, S w → w.rangeAt b off cs) (hu : P.underlying ty = some d) (hd : d.isRow = true) (hi : (P.info? ty).map (·.size) = some cs.length)
    (hQ : ∀ c a w, Q (.panic c) (a.put o.dst (.agg cs.toArray)) w → Q (.panic c) a w) (h0 : S w) (h : wpAnyH P .any ops Q S fuel (listed.setIfInBounds i true) (a.put o.dst (.agg cs.toArray)) w) : wpAnyH P .any ops Q S (fuel + 1) listed a w :=
  wpAnyH_take ho hs hf hr hQ (yieldsIf_load_mid hw ty x hop b off hx cs d hS hu hd hi) h0 h
/-- what yields in whatever world -/
theorem held_take (i : Nat) {o : Oper} (v : Value) (hs : Region.noSelect ops = true) (hf : Region.free .any ops listed i = true) (hr : (Region.ready .any ops listed).contains i = true) (ho : ops[i]? = some o) (hw : Region.wanted o (yielded ops a.tmps) = true)
    (hy : ∀ w, S w → (execOp a.eval o).run P w = .ok (.value v) w)
    (hQ : ∀ c a w, Q (.panic c) (a.put o.dst v) w → Q (.panic c) a w) (h0 : S w) (h : wpAnyH P .any ops Q S fuel (listed.setIfInBounds i true) (a.put o.dst v) w) : wpAnyH P .any ops Q S (fuel + 1) listed a w :=
  wpAnyH_take ho hs hf hr hQ (Or.inl ⟨hw, hy⟩) h0 h
end
theorem pst_start {w w2 : World} {F : Nat → Prop} {B : Nat} {bk : List (Option Lst)} (hB : Book w2 F B bk) (hI : Begun bk 1 5 7 15) (hF : ∀ b, F b → w.heap.size ≤ b) (hb : Below w.heap.size w w2) :
    PSt w (w2.alloc (.cells #[.int .i64 0, .int .i64 0] 28)) B (.slice (some ⟨w2.heap.size, 0, none⟩) 1 1) (.slice none 0 0) [(0, 0)] [true] [(0, 0)] [] := by
  have hb2 := (Below.refl w2.heap.size w2).alloc (Nat.le_refl _) (.cells #[.int .i64 0, .int .i64 0] 28)
  refine ⟨F, bk, hB.below hb2, line_start hI, ⟨rfl, .inr ⟨w2.heap.size, 1, _, rfl, hb.size, heap_alloc_new _ _, Nat.le_refl _, by unfold maxLen; omega, rfl, rfl⟩⟩, ⟨rfl, .inl ⟨rfl, rfl⟩⟩, fun g hg hf => ?_, fun g hg => (by cases hg), hF, hb.trans (hb2.mono hb.size)⟩
  cases hg
  have := hB.lt _ hf
  simp at this
theorem PSt.rl' {w wr : World} {B : Nat} {vl vt : Value} {line lm : List (Nat × Nat)} {th tm : List Bool} (h : PSt w wr B vl vt line th lm tm) : wr.ownsRow w.heap.size 28 2 vl lm.length (encPs lm) := by obtain ⟨F, bk, h⟩ := h; exact h.rl
theorem PSt.rt' {w wr : World} {B : Nat} {vl vt : Value} {line lm : List (Nat × Nat)} {th tm : List Bool} (h : PSt w wr B vl vt line th lm tm) : wr.ownsRow w.heap.size 4 1 vt tm.length (tm.map Value.bool) := by obtain ⟨F, bk, h⟩ := h; exact h.rt
theorem PSt.tlen {w wr : World} {B : Nat} {vl vt : Value} {line lm : List (Nat × Nat)} {th tm : List Bool} (h : PSt w wr B vl vt line th lm tm) : th.length = line.length := by obtain ⟨F, bk, h⟩ := h; exact h.inv.len
/-- the two places that the law's last loop keeps, in blocks behind those of the world wr -/
structure PL (wr wx : World) (u l : Int × Int) : Prop where
  bel : Below wr.heap.size wr wx
  up : wx.heap[wr.heap.size]? = some (.cells #[.int .i64 u.1, .int .i64 u.2] 28 (0, 0))
  last : wx.heap[wr.heap.size + 1]? = some (.cells #[.int .i64 l.1, .int .i64 l.2] 28 (0, 0))
theorem PL.below {wr wx wy : World} {u l : Int × Int} (h : PL wr wx u l) (hb : Below wx.heap.size wx wy) : PL wr wy u l :=
  ⟨h.bel.trans (hb.mono h.bel.size), (hb.block _ (Array.getElem?_eq_some_iff.1 h.up).1).trans h.up, (hb.block _ (Array.getElem?_eq_some_iff.1 h.last).1).trans h.last⟩
theorem PL.put {wr wx : World} {u l : Int × Int} (h : PL wr wx u l) (x y : Int) : PL wr ((wx.setCell ⟨wr.heap.size, 0, none⟩ (.int .i64 x)).setCell ⟨wr.heap.size, 1, none⟩ (.int .i64 y)) (x, y) l :=
  ⟨(h.bel.setCell (p := ⟨wr.heap.size, 0, none⟩) (Nat.le_refl _) _).setCell (p := ⟨wr.heap.size, 1, none⟩) (Nat.le_refl _) _, set2a h.up _ _, ((heap_setCell_other _ _ _ _ (by simp)).trans (heap_setCell_other _ _ _ _ (by simp))).trans h.last⟩
theorem PL.putL {wr wx : World} {u l : Int × Int} (h : PL wr wx u l) (x y : Int) : PL wr ((wx.setCell ⟨wr.heap.size + 1, 0, none⟩ (.int .i64 x)).setCell ⟨wr.heap.size + 1, 1, none⟩ (.int .i64 y)) u (x, y) :=
  ⟨(h.bel.setCell (p := ⟨wr.heap.size + 1, 0, none⟩) (by simp) _).setCell (p := ⟨wr.heap.size + 1, 1, none⟩) (by simp) _, ((heap_setCell_other _ _ _ _ (by simp)).trans (heap_setCell_other _ _ _ _ (by simp))).trans h.up, set2a h.last _ _⟩
theorem info4' : ∃ i, Try.prog.info? 4 = some i ∧ i.zero = some (.bool false) ∧ i.size = 1 ∧ i.bytes = 1 := info_parts (by kernel_rfl)
set_option maxRecDepth 8000 in
set_option maxHeartbeats 8000000 in
theorem passOn_walk (n : Int) (a2 : Option Addr) (len2 cap2 : Nat) (Z2 : Nat → Int) (w : World) (hl2 : len2 ≤ maxLen) (h2 : IsInts w a2 len2 Z2) :
    Calls Try.prog 3 #[.int .i64 n, .slice a2 len2 cap2] w fun e w' => e = .returned (.bool true) ∧ Below w.heap.size w w' := by
  have HI2 := hide h2
  clear h2
  obtain ⟨i28, hi28, hz28, hs28, hb28⟩ := info28'
  obtain ⟨i4, hi4, hz4, hs4, hb4⟩ := info4'
  by_cases hn1 : n < 2
  · have HB := hide (Below.refl w.heap.size w)
    go_enter Try.func3, Try.ntmps3
    go_wp2
    go_ret
    exact ⟨rfl, HB.out⟩
  by_cases hn2 : n > 40
  · have HB := hide (Below.refl w.heap.size w)
    go_enter Try.func3, Try.ntmps3
    go_wp2
    go_ret
    exact ⟨rfl, HB.out⟩
  obtain ⟨N, rfl⟩ : ∃ N : Nat, n = (N : Int) := ⟨n.toNat, by omega⟩
  have hN1 : 2 ≤ N := by omega
  have hN2 : N ≤ 40 := by omega
  go_enter Try.func3, Try.ntmps3
  go_wp2_with fail
  refine (begun_any w 1 5 7 15 (by unfold mb; omega)).mono ?_
  rintro e w1 ⟨B, F, bk, rfl, hB, hF, hb1, hBe⟩
  have HP := hide (pst_start hB hBe hF hb1)
  clear hB hF hb1 hBe
  go_upto_region 7 with fail
  generalize w1.alloc (.cells #[.int .i64 0, .int .i64 0] 28) = w2 at *
  generalize w1.heap.size = n1 at *
  go_wp2_with (at_builtin; refine wpList_append_own_at _ rfl _ _ 30 rfl w.heap.size 4 i4 (.bool false) 1 1 Try.underlying30 hi4 hz4 hs4 hb4 rfl (by decide) _ 0 [] rfl ⟨rfl, .inl ⟨rfl, rfl⟩⟩ ⟨w2.heap.size, 0, none⟩ 1 1 [.bool true] rfl rfl (cell_one_new _ _ _) (by simp [Value.oneCell']) (by unfold maxLen; omega) (by omega) (by have := HP.out.bel.size; simp; omega) ?_; intro vt w3 ho3 hg3 _ hl3)
  have HP3 := hide (HP.out.appT (t := true) (n := 0) rfl ho3 hg3 hl3)
  obtain ⟨at3, ct3, rfl⟩ := own_shape ho3
  clear ho3 hg3 hl3 HP
  go_loopw [6, 7, 8] (fun vl vt x wr => ∃ (line : List (Nat × Nat)) (th : List Bool), 1 ≤ line.length ∧ line.length ≤ N ∧ x = .int .i64 (line.length : Int) ∧ Hid (∀ i, i < line.length → th[i]? = some true) ∧ Hid (PSt w wr B vl vt line th line th)) (fun _ _ x _ => 40 - (intOf x).toNat)
  case atStart => exact ⟨[(0, 0)], [true], by simp, by simp; omega, rfl, fun i hi => by simp at hi; subst hi; rfl, HP3⟩
  case round =>
  obtain ⟨line, th, hln1, hln2, rfl, HAll, K1⟩ := hrel
  clear HP3
  obtain ⟨m, hm⟩ : ∃ m, line.length = m + 1 := ⟨line.length - 1, by omega⟩
  by_cases hlt : line.length < N
  · obtain ⟨p, hp⟩ : ∃ p, line[m]? = some p := ⟨_, List.getElem?_eq_getElem (by omega)⟩
    obtain ⟨g, c, rfl, hc0, hc1⟩ := K1.out.lcell hp
    obtain ⟨at', ct', rfl⟩ := own_shape K1.out.rt'
    have HD := hide ((K1.out.below (Below.refl _ _).drew).derive HAll.out (by omega) (by omega) (p := p) (by rw [hm]; simpa using hp))
    have htl := K1.out.tlen
    obtain ⟨L, hL⟩ : ∃ L, line.length = L := ⟨_, rfl⟩
    obtain ⟨q4, hq4⟩ : ∃ q4, L % 4 = q4 := ⟨_, rfl⟩
    have c12 : wr.drew.cell? ⟨g, m * 2, none⟩ = some (.int .i64 (p.1 : Int)) ∧ wr.drew.cell? ⟨g, m * 2 + 1, none⟩ = some (.int .i64 (p.2 : Int)) := ⟨hc0, hc1⟩
    have HPp := hide hp
    rw [hL] at HD hm hln1 hln2 hlt htl
    rw [hq4, htl] at HD
    have hwm : IntKind.i64.wrap ((L : Int) - 1) = (m : Int) := by simp [IntKind.wrap, IntKind.signed, IntKind.bits]; split <;> omega
    have hwm2 : (L : Int) - 1 = (m : Int) := by omega
    have hmL : (m : Int) < (L : Int) := by omega
    have hrw : (L : Int).tmod 4 = (q4 : Int) := by rw [Int.tmod_eq_emod_of_nonneg (by omega)]; omega
    have hLN : (L : Int) < (N : Int) := by omega
    have hwm3 : IntKind.i64.wrap (m : Int) = (m : Int) := by simp [IntKind.wrap, IntKind.signed, IntKind.bits]; split <;> omega
    have hmLn : m < L := by omega
    have hL40 : L ≤ 40 := by omega
    rw [hL]
    rw [hL] at K1
    have HM := hide hm
    clear hp hc0 hc1 hm
    go_upto_region 12 with fail
    go_region_held (fun W => W.cell? ⟨g, m * 2, none⟩ = some (.int .i64 (p.1 : Int)) ∧ W.cell? ⟨g, m * 2 + 1, none⟩ = some (.int .i64 (p.2 : Int)))
      (first | assumption | exact q1 | exact c12)
      (first | (go_at_call 10; refine HD.out.mono ?_; rintro e1 w5 ⟨k, rfl, hP5⟩
                have q1 : w5.cell? ⟨g, m * 2, none⟩ = some (.int .i64 (p.1 : Int)) ∧ w5.cell? ⟨g, m * 2 + 1, none⟩ = some (.int .i64 (p.2 : Int)) := by
                  obtain ⟨g', c', hv, h1, h2⟩ := hP5.lcell HPp.out
                  obtain rfl : g = g' := by simp at hv; exact hv.1
                  exact ⟨h1, h2⟩
                have HP5 := hide hP5
                clear hP5))
    have hrl := HP5.out.rl'
    rw [hL] at hrl
    have hsz5 := HP5.out.bel.size
    clear q1 c12 HD K1
    go_upto_region 16 with (at_builtin; refine wpList_append_own_at _ rfl _ _ 29 rfl w.heap.size 28 i28 (.agg #[.int .i64 0, .int .i64 0]) 2 16 Try.underlying29 hi28 hz28 hs28 hb28 rfl (by decide) _ L (encPs line) rfl (hrl.alloc _) ⟨w5.heap.size, 0, none⟩ 1 1 [.int .i64 (q4 : Int), .int .i64 (k : Int)] rfl rfl (cell_two_new _ _ _ _) (by simp [Value.oneCell']) (by unfold maxLen; omega) (by omega) (by simp; omega) ?_; intro vl' w6 ho6 hg6 _ hl6)
    have hP6 := HP5.out.appL (p := (q4, k)) hL.symm ho6 hg6 hl6
    obtain ⟨al6, cl6, rfl⟩ := own_shape ho6
    have hrt := hP6.rt'
    rw [htl] at hrt
    have hsz6 := hP6.bel.size
    have HP6 := hide hP6
    clear hrl ho6 hg6 hl6 hP6 HP5 hsz5
    go_wp2_with (at_builtin; refine wpList_append_own_at _ rfl _ _ 30 rfl w.heap.size 4 i4 (.bool false) 1 1 Try.underlying30 hi4 hz4 hs4 hb4 rfl (by decide) _ L (th.map Value.bool) rfl (hrt.alloc _) ⟨w6.heap.size, 0, none⟩ 1 1 [.bool true] rfl rfl (cell_one_new _ _ _) (by simp [Value.oneCell']) (by unfold maxLen; omega) (by omega) (by simp; omega) ?_; intro vt' w7 ho7 hg7 _ hl7)
    have hP7 := HP6.out.appT (t := true) htl.symm ho7 hg7 hl7
    obtain ⟨at7, ct7, rfl⟩ := own_shape ho7
    have HP7 := hide hP7
    clear hrt ho7 hg7 hl7 hP7 HP6 hsz6
    go_roundw
    case rel =>
      have HA7 : Hid (∀ i, i < (line ++ [(q4, k)]).length → (th ++ [true])[i]? = some true) := by
        intro i hi
        rw [List.length_append] at hi
        simp at hi
        rcases Nat.lt_or_ge i line.length with h1 | h1
        · rw [List.getElem?_append_left (by omega)]; exact HAll.out i h1
        · rw [List.getElem?_append_right (by omega)]; simp [show i - th.length = 0 by omega]
      first
        | exact ⟨line ++ [(q4, k)], th ++ [true], by simp, by simp; omega, by first | (simp [hL]; done) | (simp [hL]; go_num), HA7, HP7⟩
        | ((repeat apply Exists.intro); refine ⟨?_, rfl⟩; exact ⟨line ++ [(q4, k)], th ++ [true], by simp, by simp; omega, by first | (simp [hL]; done) | (simp [hL]; go_num), HA7, HP7⟩)
    case measure => simp [intOf]; omega
  -- REST
  have hLN : line.length = N := by omega
  have hnlt : ¬ (line.length : Int) < (N : Int) := by omega
  have htl := K1.out.tlen
  rw [hLN] at hnlt htl
  obtain ⟨al, cl, hvl⟩ := own_shape K1.out.rl'
  obtain ⟨at', ct', hvt⟩ := own_shape K1.out.rt'
  subst hvl
  subst hvt
  rw [hLN]
  rw [hLN, htl] at K1
  have htl' : th.length = line.length := by rw [htl, hLN]
  rw [htl]
  clear hln1 hln2 hm hlt HAll
  have hml : (len2 : Int) ≤ 9223372036854775807 := by unfold maxLen at hl2; omega
  go_wp2_with fail
  go_loopw [11] (fun x wr => ∃ (k : Nat) (th : List Bool), k ≤ len2 ∧ k ≤ 100 ∧ x = .int .i64 (k : Int) ∧ th.length = N ∧ Hid (PSt w wr B (.slice al N cl) (.slice at' N ct') line th line th)) (fun x _ => 100 - (intOf x).toNat)
  case atStart => exact ⟨0, th, by omega, by omega, rfl, htl, K1⟩
  case round =>
  clear K1 htl htl'
  obtain ⟨k, th, hk1, hk2, rfl, htl, K1⟩ := hrel
  by_cases hlt : k < len2 ∧ k < 100
  · obtain ⟨hlt1, hlt2⟩ := hlt
    obtain ⟨x, rfl, hx⟩ := HI2.out.at hlt1
    have cx := hx _ K1.out.bel
    have hki : (k : Int) < (len2 : Int) := by omega
    have hk3 : (k : Int) < 100 := by omega
    generalize hza : Z2 k = a at *
    clear hza hx
    by_cases h0 : a < 0
    · go_wp2
      go_roundw
      case rel =>
        first
          | exact ⟨k + 1, th, by omega, by omega, by go_num, htl, K1⟩
          | ((repeat apply Exists.intro); refine ⟨?_, rfl⟩; exact ⟨k + 1, th, by omega, by omega, by go_num, htl, K1⟩)
      case measure => simp [intOf]; omega
    by_cases h1 : (N : Int) ≤ a
    · go_wp2
      go_roundw
      case rel =>
        first
          | exact ⟨k + 1, th, by omega, by omega, by go_num, htl, K1⟩
          | ((repeat apply Exists.intro); refine ⟨?_, rfl⟩; exact ⟨k + 1, th, by omega, by omega, by go_num, htl, K1⟩)
      case measure => simp [intOf]; omega
    obtain ⟨d, rfl⟩ : ∃ d : Nat, a = (d : Int) := ⟨a.toNat, by omega⟩
    have hdN : d < N := by omega
    have hdi : (d : Int) < (N : Int) := by omega
    obtain ⟨t, ht⟩ : ∃ t, th[d]? = some t := ⟨_, List.getElem?_eq_getElem (by omega)⟩
    obtain ⟨gt, ct2, hvt, hct, hft, hstr⟩ := K1.out.tcell ht
    obtain ⟨rfl, rfl⟩ : at' = some ⟨gt, 0, none⟩ ∧ ct' = ct2 := by rw [htl] at hvt; simpa using hvt
    cases t
    · clear hstr hvt
      go_wp2
      go_roundw
      case rel =>
        first
          | exact ⟨k + 1, th, by omega, by omega, by go_num, htl, K1⟩
          | ((repeat apply Exists.intro); refine ⟨?_, rfl⟩; exact ⟨k + 1, th, by omega, by omega, by go_num, htl, K1⟩)
      case measure => simp [intOf]; omega
    · obtain ⟨p, hp⟩ : ∃ p, line[d]? = some p := ⟨_, List.getElem?_eq_getElem (by omega)⟩
      obtain ⟨gl, cl2, hvl, hc0, hc1⟩ := K1.out.lcell hp
      obtain ⟨rfl, rfl⟩ : al = some ⟨gl, 0, none⟩ ∧ cl = cl2 := by rw [hLN] at hvl; simpa using hvl
      have HD := hide (K1.out.dropc2 hp ht)
      have HPp := hide hp
      have HTt := hide ht
      clear hstr hvt hvl hp ht
      go_upto_region 22 with fail
      clear hct hft
      go_cut [14] (fun v wx => v = .int .i64 0 ∧ Hid (PSt w wx B (.slice (some ⟨gl, 0, none⟩) N cl) (.slice (some ⟨gt, 0, none⟩) N ct') line (th.set d false) line th))
      case first =>
        have hgl : gl < wr.heap.size := cell_lt' hc0
        have hgl2 : gl ≠ wr.heap.size := by omega
        have hc4 : ∀ o, (wr.alloc o).cell? ⟨gl, d * 2, none⟩ = some (.int .i64 (p.1 : Int)) := fun o => (((Below.refl wr.heap.size wr).alloc (Nat.le_refl _) o).cell (p := ⟨gl, d * 2, none⟩) hgl).trans hc0
        have hc5 : ∀ o, (wr.alloc o).cell? ⟨gl, d * 2 + 1, none⟩ = some (.int .i64 (p.2 : Int)) := fun o => (((Below.refl wr.heap.size wr).alloc (Nat.le_refl _) o).cell (p := ⟨gl, d * 2 + 1, none⟩) hgl).trans hc1
        have hc6 : ∀ o, (wr.alloc o).drew.cell? ⟨gl, d * 2, none⟩ = some (.int .i64 (p.1 : Int)) := hc4
        have hc7 : ∀ o, (wr.alloc o).drew.cell? ⟨gl, d * 2 + 1, none⟩ = some (.int .i64 (p.2 : Int)) := hc5
        have c22 : wr.drew.cell? ⟨gl, d * 2, none⟩ = some (.int .i64 (p.1 : Int)) ∧ wr.drew.cell? ⟨gl, d * 2 + 1, none⟩ = some (.int .i64 (p.2 : Int)) := ⟨hc0, hc1⟩
        have c23 : ∀ o, (wr.alloc o).drew.cell? ⟨gl, d * 2, none⟩ = some (.int .i64 (p.1 : Int)) ∧ (wr.alloc o).drew.cell? ⟨gl, d * 2 + 1, none⟩ = some (.int .i64 (p.2 : Int)) := fun o => ⟨hc6 o, hc7 o⟩
        clear hc4 hc5 hc6 hc7 hc0 hc1
        -- W22
        refine wp_region_held_drew (S := fun W => W.cell? ⟨gl, d * 2, none⟩ = some (.int .i64 (p.1 : Int)) ∧ W.cell? ⟨gl, d * 2 + 1, none⟩ = some (.int .i64 (p.2 : Int))) (by kernel_rfl) c22 (fun hHeld => ?_)
        refine held_take 0 (o := ⟨some 102, _, _, _, _, _⟩) (.pointer (some ⟨B, 0, none⟩)) (by kernel_rfl) (by kernel_rfl) (by kernel_rfl) rfl (by rfl) (fun W hSw => by go_simp) (fun _ _ _ h => h) hHeld ?_
        simp only [Act.put, List.setIfInBounds_toArray, List.set_cons_zero, List.set_cons_succ]
        refine held_take 1 (o := ⟨some 103, _, _, _, _, _⟩) (.slice (some ⟨gl, 0, none⟩) N cl) (by kernel_rfl) (by kernel_rfl) (by kernel_rfl) rfl (by rfl) (fun W hSw => by go_simp) (fun _ _ _ h => h) hHeld ?_
        simp only [Act.put, List.setIfInBounds_toArray, List.set_cons_zero, List.set_cons_succ]
        refine held_take 2 (o := ⟨some 104, _, _, _, _, _⟩) (.int .i64 (d : Int)) (by kernel_rfl) (by kernel_rfl) (by kernel_rfl) rfl (by rfl) (fun W hSw => by go_simp) (fun _ _ _ h => h) hHeld ?_
        simp only [Act.put, List.setIfInBounds_toArray, List.set_cons_zero, List.set_cons_succ]
        refine held_take 3 (o := ⟨some 105, _, _, _, _, _⟩) (.pointer (some ⟨gl, d * 2, none⟩)) (by kernel_rfl) (by kernel_rfl) (by kernel_rfl) rfl (by rfl) (fun W hSw => by go_simp) (fun _ _ _ h => h) hHeld ?_
        simp only [Act.put, List.setIfInBounds_toArray, List.set_cons_zero, List.set_cons_succ]
        refine held_take 4 (o := ⟨some 106, _, _, _, _, _⟩) (.pointer (some ⟨gl, d * 2, none⟩)) (by kernel_rfl) (by kernel_rfl) (by kernel_rfl) rfl (by rfl) (fun W hSw => by go_simp) (fun _ _ _ h => h) hHeld ?_
        simp only [Act.put, List.setIfInBounds_toArray, List.set_cons_zero, List.set_cons_succ]
        refine held_take 5 (o := ⟨some 107, _, _, _, _, _⟩) (.int .i64 (p.1 : Int)) (by kernel_rfl) (by kernel_rfl) (by kernel_rfl) rfl (by rfl) (fun W hSw => by obtain ⟨s0, s1⟩ := hSw; go_simp) (fun _ _ _ h => h) hHeld ?_
        simp only [Act.put, List.setIfInBounds_toArray, List.set_cons_zero, List.set_cons_succ]
        refine held_take 6 (o := ⟨some 108, _, _, _, _, _⟩) (.slice (some ⟨gl, 0, none⟩) N cl) (by kernel_rfl) (by kernel_rfl) (by kernel_rfl) rfl (by rfl) (fun W hSw => by go_simp) (fun _ _ _ h => h) hHeld ?_
        simp only [Act.put, List.setIfInBounds_toArray, List.set_cons_zero, List.set_cons_succ]
        refine held_take 7 (o := ⟨some 109, _, _, _, _, _⟩) (.int .i64 (d : Int)) (by kernel_rfl) (by kernel_rfl) (by kernel_rfl) rfl (by rfl) (fun W hSw => by go_simp) (fun _ _ _ h => h) hHeld ?_
        simp only [Act.put, List.setIfInBounds_toArray, List.set_cons_zero, List.set_cons_succ]
        refine held_take 8 (o := ⟨some 110, _, _, _, _, _⟩) (.pointer (some ⟨gl, d * 2, none⟩)) (by kernel_rfl) (by kernel_rfl) (by kernel_rfl) rfl (by rfl) (fun W hSw => by go_simp) (fun _ _ _ h => h) hHeld ?_
        simp only [Act.put, List.setIfInBounds_toArray, List.set_cons_zero, List.set_cons_succ]
        refine held_take 9 (o := ⟨some 111, _, _, _, _, _⟩) (.pointer (some ⟨gl, d * 2 + 1, none⟩)) (by kernel_rfl) (by kernel_rfl) (by kernel_rfl) rfl (by rfl) (fun W hSw => by go_simp) (fun _ _ _ h => h) hHeld ?_
        simp only [Act.put, List.setIfInBounds_toArray, List.set_cons_zero, List.set_cons_succ]
        refine held_take 10 (o := ⟨some 112, _, _, _, _, _⟩) (.int .i64 (p.2 : Int)) (by kernel_rfl) (by kernel_rfl) (by kernel_rfl) rfl (by rfl) (fun W hSw => by obtain ⟨s0, s1⟩ := hSw; go_simp) (fun _ _ _ h => h) hHeld ?_
        simp only [Act.put, List.setIfInBounds_toArray, List.set_cons_zero, List.set_cons_succ]
        refine held_two 11 15 (o1 := ⟨some 113, _, _, _, _, _⟩) (o2 := ⟨some 13, _, _, _, _, _⟩) (by kernel_rfl) rfl rfl (by rfl) (by rfl) (fun K hK => ?_) (fun K hK => ?_)
        · go_simp
          go_wp2_with (go_at_call 11; refine (HD.out _ (Below.refl _ _).drew).mono ?_; rintro e1 w5 ⟨rfl, hP5, hz5, hk5⟩)
          have q0 : ∀ W, PSt w W B (.slice (some ⟨gl, 0, none⟩) N cl) (.slice (some ⟨gt, 0, none⟩) N ct') line (th.set d false) line th → W.cell? ⟨gl, d * 2, none⟩ = some (.int .i64 (p.1 : Int)) ∧ W.cell? ⟨gl, d * 2 + 1, none⟩ = some (.int .i64 (p.2 : Int)) := by
            intro W hW
            obtain ⟨g', c', hv, h1, h2⟩ := hW.lcell HPp.out
            obtain rfl : gl = g' := by simp at hv; exact hv.1
            exact ⟨h1, h2⟩
          have hS5 := q0 _ (hP5 _ (Below.refl _ _))
          clear hHeld
          refine hK _ _ hS5 ?_
          clear hK K
          refine held_take 12 (o := ⟨some 101, _, _, _, _, _⟩) (.tuple #[.agg #[.int .i64 1, .int .i64 5, .int .i64 7, .int .i64 15], .int .i64 0]) (by kernel_rfl) (by kernel_rfl) (by kernel_rfl) rfl (by rfl) (fun W hSw => by go_simp) (fun _ _ _ h => h) hS5 ?_
          simp only [Act.put, List.setIfInBounds_toArray, List.set_cons_zero, List.set_cons_succ]
          refine held_take 13 (o := ⟨some 114, _, _, _, _, _⟩) (.agg #[.int .i64 1, .int .i64 5, .int .i64 7, .int .i64 15]) (by kernel_rfl) (by kernel_rfl) (by kernel_rfl) rfl (by rfl) (fun W hSw => by go_simp) (fun _ _ _ h => h) hS5 ?_
          simp only [Act.put, List.setIfInBounds_toArray, List.set_cons_zero, List.set_cons_succ]
          refine held_take 14 (o := ⟨some 115, _, _, _, _, _⟩) (.int .i64 0) (by kernel_rfl) (by kernel_rfl) (by kernel_rfl) rfl (by rfl) (fun W hSw => by go_simp) (fun _ _ _ h => h) hS5 ?_
          simp only [Act.put, List.setIfInBounds_toArray, List.set_cons_zero, List.set_cons_succ]
          refine held_call 15 (o := ⟨some 13, _, _, _, _, _⟩) (by kernel_rfl) rfl (by rfl) (fun K hK => ?_)
          go_simp
          refine hK _ _ (q0 _ (hP5 _ ((Below.refl _ _).alloc hz5 _))) ?_
          clear hK K
          refine held_call 16 (o := ⟨none, _, _, _, _, _⟩) (by kernel_rfl) rfl (by rfl) (fun K hK => ?_)
          go_simp
          refine hK _ _ (q0 _ (hP5 _ ((Below.refl _ _).alloc hz5 _))) ?_
          clear hK K
          refine held_take 17 (o := ⟨some 14, _, _, _, _, _⟩) (.int .i64 0) (by kernel_rfl) (by kernel_rfl) (by kernel_rfl) rfl (by rfl) (fun W hSw => by go_simp) (fun _ _ _ h => h) (q0 _ (hP5 _ ((Below.refl _ _).alloc hz5 _))) ?_
          simp only [Act.put, List.setIfInBounds_toArray, List.set_cons_zero, List.set_cons_succ]
          refine wpAnyH_done (by kernel_rfl) ?_ _
          go_wp2_with fail
          go_meet
          case rel => exact ⟨rfl, hP5 _ ((Below.refl _ _).alloc hz5 _)⟩
        · go_simp
          refine hK _ _ (c23 _) ?_
          clear hK K
          refine held_call 11 (o := ⟨some 113, _, _, _, _, _⟩) (by kernel_rfl) rfl (by rfl) (fun K hK => ?_)
          go_simp
          go_wp2_with (go_at_call 11; refine (HD.out _ ((Below.refl _ _).alloc (Nat.le_refl _) _).drew).mono ?_; rintro e1 w5 ⟨rfl, hP5, hz5, hk5⟩)
          have q0 : ∀ W, PSt w W B (.slice (some ⟨gl, 0, none⟩) N cl) (.slice (some ⟨gt, 0, none⟩) N ct') line (th.set d false) line th → W.cell? ⟨gl, d * 2, none⟩ = some (.int .i64 (p.1 : Int)) ∧ W.cell? ⟨gl, d * 2 + 1, none⟩ = some (.int .i64 (p.2 : Int)) := by
            intro W hW
            obtain ⟨g', c', hv, h1, h2⟩ := hW.lcell HPp.out
            obtain rfl : gl = g' := by simp at hv; exact hv.1
            exact ⟨h1, h2⟩
          have hS5 := q0 _ (hP5 _ (Below.refl _ _))
          have hz2 : w5.heap[wr.heap.size]? = some (.cells #[.int .i64 0, .int .i64 0, .int .i64 0, .int .i64 0] 26 (0, 0)) := (hk5 wr.heap.size (Nat.le_refl _) (show wr.heap.size < (wr.alloc (.cells #[.int .i64 0, .int .i64 0, .int .i64 0, .int .i64 0] 26)).heap.size by simp)).trans (heap_alloc_new wr (.cells #[.int .i64 0, .int .i64 0, .int .i64 0, .int .i64 0] 26))
          obtain ⟨y0, y1, y2, y3⟩ := blk4 hz2
          obtain ⟨z0, z1, z2, z3⟩ := blk4f hz2
          clear hHeld
          refine hK _ _ hS5 ?_
          clear hK K
          refine held_take 12 (o := ⟨some 101, _, _, _, _, _⟩) (.tuple #[.agg #[.int .i64 1, .int .i64 5, .int .i64 7, .int .i64 15], .int .i64 0]) (by kernel_rfl) (by kernel_rfl) (by kernel_rfl) rfl (by rfl) (fun W hSw => by go_simp) (fun _ _ _ h => h) hS5 ?_
          simp only [Act.put, List.setIfInBounds_toArray, List.set_cons_zero, List.set_cons_succ]
          refine held_take 13 (o := ⟨some 114, _, _, _, _, _⟩) (.agg #[.int .i64 1, .int .i64 5, .int .i64 7, .int .i64 15]) (by kernel_rfl) (by kernel_rfl) (by kernel_rfl) rfl (by rfl) (fun W hSw => by go_simp) (fun _ _ _ h => h) hS5 ?_
          simp only [Act.put, List.setIfInBounds_toArray, List.set_cons_zero, List.set_cons_succ]
          refine held_take 14 (o := ⟨some 115, _, _, _, _, _⟩) (.int .i64 0) (by kernel_rfl) (by kernel_rfl) (by kernel_rfl) rfl (by rfl) (fun W hSw => by go_simp) (fun _ _ _ h => h) hS5 ?_
          simp only [Act.put, List.setIfInBounds_toArray, List.set_cons_zero, List.set_cons_succ]
          refine held_call 16 (o := ⟨none, _, _, _, _, _⟩) (by kernel_rfl) rfl (by rfl) (fun K hK => ?_)
          go_simp
          have hBl : Below wr.heap.size w5 ((((w5.setCell ⟨wr.heap.size, 0, none⟩ (.int .i64 1)).setCell ⟨wr.heap.size, 1, none⟩ (.int .i64 5)).setCell ⟨wr.heap.size, 2, none⟩ (.int .i64 7)).setCell ⟨wr.heap.size, 3, none⟩ (.int .i64 15)) :=
            ((((Below.refl _ _).setCell (p := ⟨wr.heap.size, 0, none⟩) (Nat.le_refl _) _).setCell (p := ⟨wr.heap.size, 1, none⟩) (Nat.le_refl _) _).setCell (p := ⟨wr.heap.size, 2, none⟩) (Nat.le_refl _) _).setCell (p := ⟨wr.heap.size, 3, none⟩) (Nat.le_refl _) _
          refine hK _ _ (q0 _ (hP5 _ hBl)) ?_
          clear hK K
          refine held_take 17 (o := ⟨some 14, _, _, _, _, _⟩) (.int .i64 0) (by kernel_rfl) (by kernel_rfl) (by kernel_rfl) rfl (by rfl) (fun W hSw => by go_simp) (fun _ _ _ h => h) (q0 _ (hP5 _ hBl)) ?_
          simp only [Act.put, List.setIfInBounds_toArray, List.set_cons_zero, List.set_cons_succ]
          refine wpAnyH_done (by kernel_rfl) ?_ _
          go_wp2_with fail
          go_meet
          case rel => exact ⟨rfl, hP5 _ hBl⟩
      case rest =>
      obtain ⟨rfl, K2⟩ := hcut
      obtain ⟨g3, c3, hv3, hct, hft, hstr⟩ := K2.out.tcell HTt.out
      obtain rfl : gt = g3 := by simp at hv3; exact hv3.1
      have K3 := hide (hstr false)
      clear hstr hv3 HD K2
      go_wp2
      go_roundw
      case rel =>
        first
          | exact ⟨k + 1, th.set d false, by omega, by omega, by go_num, by simpa using htl, K3⟩
          | ((repeat apply Exists.intro); refine ⟨?_, rfl⟩; exact ⟨k + 1, th.set d false, by omega, by omega, by go_num, by simpa using htl, K3⟩)
      case measure => simp [intOf]; omega
  go_upto_region 18 with fail
  go_cut [80] (fun v wx => v = .bool false ∧ wx = wr)
  case first =>
    by_cases hkl : k < len2
    · have hkli : (k : Int) < (len2 : Int) := by omega
      have hk200 : ¬ (k : Int) < 100 := by omega
      go_wp2_with fail
      go_meet
      case rel => exact ⟨rfl, rfl⟩
    · have hkli : ¬ (k : Int) < (len2 : Int) := by omega
      go_wp2_with fail
      go_meet
      case rel => exact ⟨rfl, rfl⟩
  case rest =>
  obtain ⟨rfl, rfl⟩ := hcut
  obtain ⟨wb, hwb⟩ : ∃ wb, wb = wc := ⟨wc, rfl⟩
  subst hwb
  clear hlt hk1 hk2 HI2 hml
  go_upto_region 28 with fail
  have hb2 := ((Below.refl wb.heap.size wb).alloc (Nat.le_refl _) (.cells #[.int .i64 (-1), .int .i64 (-1)] 28)).alloc (by simp) (.cells #[.int .i64 (-1), .int .i64 (-1)] 28)
  have h15 := heap_alloc2_old wb (.cells #[.int .i64 (-1), .int .i64 (-1)] 28) (.cells #[.int .i64 (-1), .int .i64 (-1)] 28)
  have h16 := heap_alloc2_new wb (.cells #[.int .i64 (-1), .int .i64 (-1)] 28) (.cells #[.int .i64 (-1), .int .i64 (-1)] 28)
  have HL0 : Hid (PL wb ((wb.alloc (.cells #[.int .i64 (-1), .int .i64 (-1)] 28)).alloc (.cells #[.int .i64 (-1), .int .i64 (-1)] 28)) (upOf line th 0) (lastOf line th 0)) := ⟨hb2, h15, h16⟩
  clear hb2 h15 h16
  generalize (wb.alloc (.cells #[.int .i64 (-1), .int .i64 (-1)] 28)).alloc (.cells #[.int .i64 (-1), .int .i64 (-1)] 28) = w6 at *
  go_wp2_with fail
  go_loopw [17] (fun x wx => ∃ k : Nat, k ≤ N ∧ x = .int .i64 (k : Int) ∧ Hid (PL wb wx (upOf line th k) (lastOf line th k))) (fun x _ => N - (intOf x).toNat)
  case atStart => exact ⟨0, by omega, rfl, HL0⟩
  case round =>
  obtain ⟨k3, hk3, rfl, K3⟩ := hrel
  clear HL0
  by_cases hlt : k3 < N
  · obtain ⟨t, ht⟩ : ∃ t, th[k3]? = some t := ⟨_, List.getElem?_eq_getElem (by omega)⟩
    have K4 := hide (K1.out.below K3.out.bel)
    obtain ⟨gt, ct2, hvt, hct, -, -⟩ := K4.out.tcell ht
    obtain ⟨rfl, rfl⟩ : at' = some ⟨gt, 0, none⟩ ∧ ct' = ct2 := by rw [htl] at hvt; simpa using hvt
    have hki : (k3 : Int) < (N : Int) := by omega
    clear hvt
    cases t
    · have K5 : Hid (PL wb wr (upOf line th (k3 + 1)) (lastOf line th (k3 + 1))) := by
        have e1 : upOf line th (k3 + 1) = upOf line th k3 := by simp [upOf, ht]
        have e2 : lastOf line th (k3 + 1) = lastOf line th k3 := by simp [lastOf, ht]
        rw [e1, e2]; exact K3
      go_wp2
      go_roundw
      case rel =>
        first
          | exact ⟨k3 + 1, by omega, by go_num, K5⟩
          | ((repeat apply Exists.intro); refine ⟨?_, rfl⟩; exact ⟨k3 + 1, by omega, by go_num, K5⟩)
      case measure => simp [intOf]; omega
    · obtain ⟨p, hp⟩ : ∃ p, line[k3]? = some p := ⟨_, List.getElem?_eq_getElem (by omega)⟩
      obtain ⟨gl, cl2, hvl, hc0, hc1⟩ := K4.out.lcell hp
      obtain ⟨rfl, rfl⟩ : al = some ⟨gl, 0, none⟩ ∧ cl = cl2 := by rw [hLN] at hvl; simpa using hvl
      have HPp := hide hp
      have HTt := hide ht
      clear hvl hp ht
      go_upto_region 32 with fail
      clear hct
      go_cut [18, 19] (fun v18 v19 wx => v19 = .int .i64 0 ∧ ∃ n18, v18 = .pointer (some ⟨n18, 0, none⟩) ∧ wb.heap.size + 1 < n18 ∧ Hid (PL wb wx (upOf line th k3) (lastOf line th k3)) ∧ wx.heap[n18]? = some (.cells #[.int .i64 (upOf line th k3).1, .int .i64 (upOf line th k3).2] 28 (0, 0)))
      case first =>
        have HFm : Hid (∀ W, Below wr.heap.size wr W → Calls Try.prog 12 #[.pointer (some ⟨B, 0, none⟩), .int .i64 (p.1 : Int), .int .i64 (p.2 : Int)] W fun x w' => x = .returned (.tuple #[.agg #[.int .i64 (upOf line th k3).1, .int .i64 (upOf line th k3).2], .int .i64 0]) ∧ Below W.heap.size W w') := fun W hW => ((K4.out.below hW).from HPp.out HTt.out).mono (fun e w' h => ⟨h.1, h.2.2⟩)
        have hgl : gl < wr.heap.size := cell_lt' hc0
        have q0 : ∀ W, Below wr.heap.size wr W → W.cell? ⟨gl, k3 * 2, none⟩ = some (.int .i64 (p.1 : Int)) ∧ W.cell? ⟨gl, k3 * 2 + 1, none⟩ = some (.int .i64 (p.2 : Int)) := fun W hW => ⟨(hW.cell (p := ⟨gl, k3 * 2, none⟩) hgl).trans hc0, (hW.cell (p := ⟨gl, k3 * 2 + 1, none⟩) hgl).trans hc1⟩
        have hsz0 : wb.heap.size + 1 < wr.heap.size := (Array.getElem?_eq_some_iff.1 K3.out.last).1
        refine wp_region_held_drew (S := fun W => W.cell? ⟨gl, k3 * 2, none⟩ = some (.int .i64 (p.1 : Int)) ∧ W.cell? ⟨gl, k3 * 2 + 1, none⟩ = some (.int .i64 (p.2 : Int))) (by kernel_rfl) (q0 _ (Below.refl _ _).drew) (fun hHeld => ?_)
        generalize hux : (upOf line th k3).1 = ux at *
        generalize huy : (upOf line th k3).2 = uy at *
        refine held_take 0 (o := ⟨some 134, _, _, _, _, _⟩) (.pointer (some ⟨B, 0, none⟩)) (by kernel_rfl) (by kernel_rfl) (by kernel_rfl) rfl (by rfl) (fun W hSw => by go_simp) (fun _ _ _ h => h) hHeld ?_
        simp only [Act.put, List.setIfInBounds_toArray, List.set_cons_zero, List.set_cons_succ]
        refine held_take 1 (o := ⟨some 135, _, _, _, _, _⟩) (.slice (some ⟨gl, 0, none⟩) N cl) (by kernel_rfl) (by kernel_rfl) (by kernel_rfl) rfl (by rfl) (fun W hSw => by go_simp) (fun _ _ _ h => h) hHeld ?_
        simp only [Act.put, List.setIfInBounds_toArray, List.set_cons_zero, List.set_cons_succ]
        refine held_take 2 (o := ⟨some 136, _, _, _, _, _⟩) (.int .i64 (k3 : Int)) (by kernel_rfl) (by kernel_rfl) (by kernel_rfl) rfl (by rfl) (fun W hSw => by go_simp) (fun _ _ _ h => h) hHeld ?_
        simp only [Act.put, List.setIfInBounds_toArray, List.set_cons_zero, List.set_cons_succ]
        refine held_take 3 (o := ⟨some 137, _, _, _, _, _⟩) (.pointer (some ⟨gl, k3 * 2, none⟩)) (by kernel_rfl) (by kernel_rfl) (by kernel_rfl) rfl (by rfl) (fun W hSw => by go_simp) (fun _ _ _ h => h) hHeld ?_
        simp only [Act.put, List.setIfInBounds_toArray, List.set_cons_zero, List.set_cons_succ]
        refine held_take 4 (o := ⟨some 138, _, _, _, _, _⟩) (.pointer (some ⟨gl, k3 * 2, none⟩)) (by kernel_rfl) (by kernel_rfl) (by kernel_rfl) rfl (by rfl) (fun W hSw => by go_simp) (fun _ _ _ h => h) hHeld ?_
        simp only [Act.put, List.setIfInBounds_toArray, List.set_cons_zero, List.set_cons_succ]
        refine held_take 5 (o := ⟨some 139, _, _, _, _, _⟩) (.int .i64 (p.1 : Int)) (by kernel_rfl) (by kernel_rfl) (by kernel_rfl) rfl (by rfl) (fun W hSw => by obtain ⟨s0, s1⟩ := hSw; go_simp) (fun _ _ _ h => h) hHeld ?_
        simp only [Act.put, List.setIfInBounds_toArray, List.set_cons_zero, List.set_cons_succ]
        refine held_take 6 (o := ⟨some 140, _, _, _, _, _⟩) (.slice (some ⟨gl, 0, none⟩) N cl) (by kernel_rfl) (by kernel_rfl) (by kernel_rfl) rfl (by rfl) (fun W hSw => by go_simp) (fun _ _ _ h => h) hHeld ?_
        simp only [Act.put, List.setIfInBounds_toArray, List.set_cons_zero, List.set_cons_succ]
        refine held_take 7 (o := ⟨some 141, _, _, _, _, _⟩) (.int .i64 (k3 : Int)) (by kernel_rfl) (by kernel_rfl) (by kernel_rfl) rfl (by rfl) (fun W hSw => by go_simp) (fun _ _ _ h => h) hHeld ?_
        simp only [Act.put, List.setIfInBounds_toArray, List.set_cons_zero, List.set_cons_succ]
        refine held_take 8 (o := ⟨some 142, _, _, _, _, _⟩) (.pointer (some ⟨gl, k3 * 2, none⟩)) (by kernel_rfl) (by kernel_rfl) (by kernel_rfl) rfl (by rfl) (fun W hSw => by go_simp) (fun _ _ _ h => h) hHeld ?_
        simp only [Act.put, List.setIfInBounds_toArray, List.set_cons_zero, List.set_cons_succ]
        refine held_take 9 (o := ⟨some 143, _, _, _, _, _⟩) (.pointer (some ⟨gl, k3 * 2 + 1, none⟩)) (by kernel_rfl) (by kernel_rfl) (by kernel_rfl) rfl (by rfl) (fun W hSw => by go_simp) (fun _ _ _ h => h) hHeld ?_
        simp only [Act.put, List.setIfInBounds_toArray, List.set_cons_zero, List.set_cons_succ]
        refine held_take 10 (o := ⟨some 144, _, _, _, _, _⟩) (.int .i64 (p.2 : Int)) (by kernel_rfl) (by kernel_rfl) (by kernel_rfl) rfl (by rfl) (fun W hSw => by obtain ⟨s0, s1⟩ := hSw; go_simp) (fun _ _ _ h => h) hHeld ?_
        simp only [Act.put, List.setIfInBounds_toArray, List.set_cons_zero, List.set_cons_succ]
        refine held_two 11 15 (o1 := ⟨some 145, _, _, _, _, _⟩) (o2 := ⟨some 18, _, _, _, _, _⟩) (by kernel_rfl) rfl rfl (by rfl) (by rfl) (fun K hK => ?_) (fun K hK => ?_)
        · go_simp
          go_wp2_with (go_at_call 12; refine (HFm.out _ ((Below.refl wr.heap.size wr).drew)).mono ?_; rintro e1 w5 ⟨rfl, hb5⟩)
          have hbb := ((Below.refl wr.heap.size wr).drew).trans (hb5.mono ((Below.refl wr.heap.size wr).drew).size)
          refine hK _ _ (q0 _ hbb) ?_
          clear hK K
          refine held_take 12 (o := ⟨some 133, _, _, _, _, _⟩) (.tuple #[.agg #[.int .i64 ux, .int .i64 uy], .int .i64 0]) (by kernel_rfl) (by kernel_rfl) (by kernel_rfl) rfl (by rfl) (fun W hSw => by go_simp) (fun _ _ _ h => h) (q0 _ hbb) ?_
          simp only [Act.put, List.setIfInBounds_toArray, List.set_cons_zero, List.set_cons_succ]
          refine held_take 13 (o := ⟨some 146, _, _, _, _, _⟩) (.agg #[.int .i64 ux, .int .i64 uy]) (by kernel_rfl) (by kernel_rfl) (by kernel_rfl) rfl (by rfl) (fun W hSw => by go_simp) (fun _ _ _ h => h) (q0 _ hbb) ?_
          simp only [Act.put, List.setIfInBounds_toArray, List.set_cons_zero, List.set_cons_succ]
          refine held_take 14 (o := ⟨some 147, _, _, _, _, _⟩) (.int .i64 0) (by kernel_rfl) (by kernel_rfl) (by kernel_rfl) rfl (by rfl) (fun W hSw => by go_simp) (fun _ _ _ h => h) (q0 _ hbb) ?_
          simp only [Act.put, List.setIfInBounds_toArray, List.set_cons_zero, List.set_cons_succ]
          refine held_call 15 (o := ⟨some 18, _, _, _, _, _⟩) (by kernel_rfl) rfl (by rfl) (fun K hK => ?_)
          go_simp
          refine hK _ _ (q0 _ (hbb.alloc hbb.size _)) ?_
          clear hK K
          refine held_call 16 (o := ⟨none, _, _, _, _, _⟩) (by kernel_rfl) rfl (by rfl) (fun K hK => ?_)
          go_simp
          refine hK _ _ (q0 _ (hbb.alloc hbb.size _)) ?_
          clear hK K
          refine held_take 17 (o := ⟨some 19, _, _, _, _, _⟩) (.int .i64 0) (by kernel_rfl) (by kernel_rfl) (by kernel_rfl) rfl (by rfl) (fun W hSw => by go_simp) (fun _ _ _ h => h) (q0 _ (hbb.alloc hbb.size _)) ?_
          simp only [Act.put, List.setIfInBounds_toArray, List.set_cons_zero, List.set_cons_succ]
          refine wpAnyH_done (by kernel_rfl) ?_ _
          go_wp2_with fail
          go_meet
          case rel => exact ⟨rfl, w5.heap.size, rfl, by have := hbb.size; omega, K3.out.below (hbb.alloc hbb.size _), heap_alloc_new w5 (.cells #[.int .i64 ux, .int .i64 uy] 28)⟩
        · go_simp
          refine hK _ _ (q0 _ (((Below.refl wr.heap.size wr).alloc (Nat.le_refl _) (.cells #[.int .i64 0, .int .i64 0] 28)).drew)) ?_
          clear hK K
          refine held_call 11 (o := ⟨some 145, _, _, _, _, _⟩) (by kernel_rfl) rfl (by rfl) (fun K hK => ?_)
          go_simp
          go_wp2_with (go_at_call 12; refine (HFm.out _ (((Below.refl wr.heap.size wr).alloc (Nat.le_refl _) (.cells #[.int .i64 0, .int .i64 0] 28)).drew)).mono ?_; rintro e1 w5 ⟨rfl, hb5⟩)
          have hbb := (((Below.refl wr.heap.size wr).alloc (Nat.le_refl _) (.cells #[.int .i64 0, .int .i64 0] 28)).drew).trans (hb5.mono (((Below.refl wr.heap.size wr).alloc (Nat.le_refl _) (.cells #[.int .i64 0, .int .i64 0] 28)).drew).size)
          refine hK _ _ (q0 _ hbb) ?_
          clear hK K
          refine held_take 12 (o := ⟨some 133, _, _, _, _, _⟩) (.tuple #[.agg #[.int .i64 ux, .int .i64 uy], .int .i64 0]) (by kernel_rfl) (by kernel_rfl) (by kernel_rfl) rfl (by rfl) (fun W hSw => by go_simp) (fun _ _ _ h => h) (q0 _ hbb) ?_
          simp only [Act.put, List.setIfInBounds_toArray, List.set_cons_zero, List.set_cons_succ]
          refine held_take 13 (o := ⟨some 146, _, _, _, _, _⟩) (.agg #[.int .i64 ux, .int .i64 uy]) (by kernel_rfl) (by kernel_rfl) (by kernel_rfl) rfl (by rfl) (fun W hSw => by go_simp) (fun _ _ _ h => h) (q0 _ hbb) ?_
          simp only [Act.put, List.setIfInBounds_toArray, List.set_cons_zero, List.set_cons_succ]
          refine held_take 14 (o := ⟨some 147, _, _, _, _, _⟩) (.int .i64 0) (by kernel_rfl) (by kernel_rfl) (by kernel_rfl) rfl (by rfl) (fun W hSw => by go_simp) (fun _ _ _ h => h) (q0 _ hbb) ?_
          simp only [Act.put, List.setIfInBounds_toArray, List.set_cons_zero, List.set_cons_succ]
          have hz2 : w5.heap[wr.heap.size]? = some (.cells #[.int .i64 0, .int .i64 0] 28 (0, 0)) := (hb5.block wr.heap.size (show wr.heap.size < (wr.alloc (.cells #[.int .i64 0, .int .i64 0] 28)).heap.size by simp)).trans (heap_alloc_new wr (.cells #[.int .i64 0, .int .i64 0] 28))
          obtain ⟨y0, y1, z0, z1⟩ := blk2 hz2
          refine held_call 16 (o := ⟨none, _, _, _, _, _⟩) (by kernel_rfl) rfl (by rfl) (fun K hK => ?_)
          go_simp
          have hBl : Below wr.heap.size wr ((w5.setCell ⟨wr.heap.size, 0, none⟩ (.int .i64 ux)).setCell ⟨wr.heap.size, 1, none⟩ (.int .i64 uy)) := (hbb.setCell (p := ⟨wr.heap.size, 0, none⟩) (by simp) _).setCell (p := ⟨wr.heap.size, 1, none⟩) (by simp) _
          refine hK _ _ (q0 _ hBl) ?_
          clear hK K
          refine held_take 17 (o := ⟨some 19, _, _, _, _, _⟩) (.int .i64 0) (by kernel_rfl) (by kernel_rfl) (by kernel_rfl) rfl (by rfl) (fun W hSw => by go_simp) (fun _ _ _ h => h) (q0 _ hBl) ?_
          simp only [Act.put, List.setIfInBounds_toArray, List.set_cons_zero, List.set_cons_succ]
          refine wpAnyH_done (by kernel_rfl) ?_ _
          go_wp2_with fail
          go_meet
          case rel => exact ⟨rfl, wr.heap.size, rfl, by omega, K3.out.below hBl, set2a hz2 _ _⟩
      case rest =>
      -- R33
      obtain ⟨rfl, n18, rfl, hn18, K5, h18⟩ := hcut
      obtain ⟨wd, hwd⟩ : ∃ wd, wd = wc := ⟨wc, rfl⟩
      subst hwd
      clear K3 K4 hc0 hc1
      have K3 := K5
      clear K5
      have K4 := hide (K1.out.below K3.out.bel)
      obtain ⟨g9, c9, hv9, hc0, hc1⟩ := K4.out.lcell HPp.out
      obtain rfl : gl = g9 := by simp at hv9; exact hv9.1
      clear hv9
      go_upto_region 33 with fail
      go_cut [20, 21] (fun v20 v21 wx => v21 = .int .i64 0 ∧ ∃ n20, v20 = .pointer (some ⟨n20, 0, none⟩) ∧ wb.heap.size + 1 < n20 ∧ Hid (PL wb wx (upOf line th k3) (lastOf line th k3)) ∧ wx.heap[n18]? = some (.cells #[.int .i64 (upOf line th k3).1, .int .i64 (upOf line th k3).2] 28 (0, 0)) ∧ wx.heap[n20]? = some (.cells #[.int .i64 (lastOf line th k3).1, .int .i64 (lastOf line th k3).2] 28 (0, 0)))
      case first =>
        have HUp : Hid (∀ (W : World) (g : Nat), Below wd.heap.size wd W → W.cell? ⟨g, 0, none⟩ = some (.int .i64 3) → W.cell? ⟨g, 1, none⟩ = some (.int .i64 0) → Calls Try.prog 13 #[.pointer (some ⟨B, 0, none⟩), .int .i64 (p.1 : Int), .int .i64 (p.2 : Int), .slice (some ⟨g, 0, none⟩) 2 2] W fun x w' => x = .returned (.tuple #[.agg #[.int .i64 (lastOf line th k3).1, .int .i64 (lastOf line th k3).2], .int .i64 0]) ∧ Below W.heap.size W w') := fun W g hW h0 h1 => ((K4.out.below hW).up HPp.out HTt.out g 2 h0 h1).mono (fun e w' h => ⟨h.1, h.2.2⟩)
        have hgl : gl < wd.heap.size := cell_lt' hc0
        have q0 : ∀ W, Below wd.heap.size wd W → W.cell? ⟨gl, k3 * 2, none⟩ = some (.int .i64 (p.1 : Int)) ∧ W.cell? ⟨gl, k3 * 2 + 1, none⟩ = some (.int .i64 (p.2 : Int)) := fun W hW => ⟨(hW.cell (p := ⟨gl, k3 * 2, none⟩) hgl).trans hc0, (hW.cell (p := ⟨gl, k3 * 2 + 1, none⟩) hgl).trans hc1⟩
        have hsz0 : wb.heap.size + 1 < wd.heap.size := (Array.getElem?_eq_some_iff.1 K3.out.last).1
        refine wp_region_held_drew (S := fun W => W.cell? ⟨gl, k3 * 2, none⟩ = some (.int .i64 (p.1 : Int)) ∧ W.cell? ⟨gl, k3 * 2 + 1, none⟩ = some (.int .i64 (p.2 : Int))) (by kernel_rfl) (q0 _ (Below.refl _ _).drew) (fun hHeld => ?_)
        generalize hlx : (lastOf line th k3).1 = lx at *
        generalize hly : (lastOf line th k3).2 = ly at *
        generalize hux : (upOf line th k3).1 = ux at *
        generalize huy : (upOf line th k3).2 = uy at *
        refine held_take 0 (o := ⟨some 149, _, _, _, _, _⟩) (.pointer (some ⟨B, 0, none⟩)) (by kernel_rfl) (by kernel_rfl) (by kernel_rfl) rfl (by rfl) (fun W hSw => by go_simp) (fun _ _ _ h => h) hHeld ?_
        simp only [Act.put, List.setIfInBounds_toArray, List.set_cons_zero, List.set_cons_succ]
        refine held_take 1 (o := ⟨some 150, _, _, _, _, _⟩) (.slice (some ⟨gl, 0, none⟩) N cl) (by kernel_rfl) (by kernel_rfl) (by kernel_rfl) rfl (by rfl) (fun W hSw => by go_simp) (fun _ _ _ h => h) hHeld ?_
        simp only [Act.put, List.setIfInBounds_toArray, List.set_cons_zero, List.set_cons_succ]
        refine held_take 2 (o := ⟨some 151, _, _, _, _, _⟩) (.int .i64 (k3 : Int)) (by kernel_rfl) (by kernel_rfl) (by kernel_rfl) rfl (by rfl) (fun W hSw => by go_simp) (fun _ _ _ h => h) hHeld ?_
        simp only [Act.put, List.setIfInBounds_toArray, List.set_cons_zero, List.set_cons_succ]
        refine held_take 3 (o := ⟨some 152, _, _, _, _, _⟩) (.pointer (some ⟨gl, k3 * 2, none⟩)) (by kernel_rfl) (by kernel_rfl) (by kernel_rfl) rfl (by rfl) (fun W hSw => by go_simp) (fun _ _ _ h => h) hHeld ?_
        simp only [Act.put, List.setIfInBounds_toArray, List.set_cons_zero, List.set_cons_succ]
        refine held_take 4 (o := ⟨some 153, _, _, _, _, _⟩) (.pointer (some ⟨gl, k3 * 2, none⟩)) (by kernel_rfl) (by kernel_rfl) (by kernel_rfl) rfl (by rfl) (fun W hSw => by go_simp) (fun _ _ _ h => h) hHeld ?_
        simp only [Act.put, List.setIfInBounds_toArray, List.set_cons_zero, List.set_cons_succ]
        refine held_take 5 (o := ⟨some 154, _, _, _, _, _⟩) (.int .i64 (p.1 : Int)) (by kernel_rfl) (by kernel_rfl) (by kernel_rfl) rfl (by rfl) (fun W hSw => by obtain ⟨s0, s1⟩ := hSw; go_simp) (fun _ _ _ h => h) hHeld ?_
        simp only [Act.put, List.setIfInBounds_toArray, List.set_cons_zero, List.set_cons_succ]
        refine held_take 6 (o := ⟨some 155, _, _, _, _, _⟩) (.slice (some ⟨gl, 0, none⟩) N cl) (by kernel_rfl) (by kernel_rfl) (by kernel_rfl) rfl (by rfl) (fun W hSw => by go_simp) (fun _ _ _ h => h) hHeld ?_
        simp only [Act.put, List.setIfInBounds_toArray, List.set_cons_zero, List.set_cons_succ]
        refine held_take 7 (o := ⟨some 156, _, _, _, _, _⟩) (.int .i64 (k3 : Int)) (by kernel_rfl) (by kernel_rfl) (by kernel_rfl) rfl (by rfl) (fun W hSw => by go_simp) (fun _ _ _ h => h) hHeld ?_
        simp only [Act.put, List.setIfInBounds_toArray, List.set_cons_zero, List.set_cons_succ]
        refine held_take 8 (o := ⟨some 157, _, _, _, _, _⟩) (.pointer (some ⟨gl, k3 * 2, none⟩)) (by kernel_rfl) (by kernel_rfl) (by kernel_rfl) rfl (by rfl) (fun W hSw => by go_simp) (fun _ _ _ h => h) hHeld ?_
        simp only [Act.put, List.setIfInBounds_toArray, List.set_cons_zero, List.set_cons_succ]
        refine held_take 9 (o := ⟨some 158, _, _, _, _, _⟩) (.pointer (some ⟨gl, k3 * 2 + 1, none⟩)) (by kernel_rfl) (by kernel_rfl) (by kernel_rfl) rfl (by rfl) (fun W hSw => by go_simp) (fun _ _ _ h => h) hHeld ?_
        simp only [Act.put, List.setIfInBounds_toArray, List.set_cons_zero, List.set_cons_succ]
        refine held_take 10 (o := ⟨some 159, _, _, _, _, _⟩) (.int .i64 (p.2 : Int)) (by kernel_rfl) (by kernel_rfl) (by kernel_rfl) rfl (by rfl) (fun W hSw => by obtain ⟨s0, s1⟩ := hSw; go_simp) (fun _ _ _ h => h) hHeld ?_
        simp only [Act.put, List.setIfInBounds_toArray, List.set_cons_zero, List.set_cons_succ]
        refine held_two 11 16 (o1 := ⟨some 160, _, _, _, _, _⟩) (o2 := ⟨some 20, _, _, _, _, _⟩) (by kernel_rfl) rfl rfl (by rfl) (by rfl) (fun K hK => ?_) (fun K hK => ?_)
        · go_simp
          refine hK _ _ (q0 _ (((Below.refl wd.heap.size wd).alloc (Nat.le_refl _) (.cells #[.int .i64 3, .int .i64 0] 3)).drew)) ?_
          clear hK K
          refine held_two 12 16 (o1 := ⟨some 161, _, _, _, _, _⟩) (o2 := ⟨some 20, _, _, _, _, _⟩) (by kernel_rfl) rfl rfl (by rfl) (by rfl) (fun K hK => ?_) (fun K hK => ?_)
          · go_simp
            go_wp2_with (go_at_call 13; refine (HUp.out _ (wd.heap.size) (((Below.refl wd.heap.size wd).alloc (Nat.le_refl _) (.cells #[.int .i64 3, .int .i64 0] 3)).drew) (blk2 (heap_alloc_new wd (.cells #[.int .i64 3, .int .i64 0] 3))).1 (blk2 (heap_alloc_new wd (.cells #[.int .i64 3, .int .i64 0] 3))).2.1).mono ?_; rintro e1 w5 ⟨rfl, hb5⟩)
            have hbb := (((Below.refl wd.heap.size wd).alloc (Nat.le_refl _) (.cells #[.int .i64 3, .int .i64 0] 3)).drew).trans (hb5.mono (((Below.refl wd.heap.size wd).alloc (Nat.le_refl _) (.cells #[.int .i64 3, .int .i64 0] 3)).drew).size)
            refine hK _ _ (q0 _ hbb) ?_
            clear hK K
            refine held_take 13 (o := ⟨some 148, _, _, _, _, _⟩) (.tuple #[.agg #[.int .i64 lx, .int .i64 ly], .int .i64 0]) (by kernel_rfl) (by kernel_rfl) (by kernel_rfl) rfl (by rfl) (fun W hSw => by go_simp) (fun _ _ _ h => h) (q0 _ hbb) ?_
            simp only [Act.put, List.setIfInBounds_toArray, List.set_cons_zero, List.set_cons_succ]
            refine held_take 14 (o := ⟨some 162, _, _, _, _, _⟩) (.agg #[.int .i64 lx, .int .i64 ly]) (by kernel_rfl) (by kernel_rfl) (by kernel_rfl) rfl (by rfl) (fun W hSw => by go_simp) (fun _ _ _ h => h) (q0 _ hbb) ?_
            simp only [Act.put, List.setIfInBounds_toArray, List.set_cons_zero, List.set_cons_succ]
            refine held_take 15 (o := ⟨some 163, _, _, _, _, _⟩) (.int .i64 0) (by kernel_rfl) (by kernel_rfl) (by kernel_rfl) rfl (by rfl) (fun W hSw => by go_simp) (fun _ _ _ h => h) (q0 _ hbb) ?_
            simp only [Act.put, List.setIfInBounds_toArray, List.set_cons_zero, List.set_cons_succ]
            refine held_call 16 (o := ⟨some 20, _, _, _, _, _⟩) (by kernel_rfl) rfl (by rfl) (fun K hK => ?_)
            go_simp
            refine hK _ _ (q0 _ (hbb.alloc hbb.size _)) ?_
            clear hK K
            refine held_call 17 (o := ⟨none, _, _, _, _, _⟩) (by kernel_rfl) rfl (by rfl) (fun K hK => ?_)
            go_simp
            refine hK _ _ (q0 _ (hbb.alloc hbb.size _)) ?_
            clear hK K
            refine held_take 18 (o := ⟨some 21, _, _, _, _, _⟩) (.int .i64 0) (by kernel_rfl) (by kernel_rfl) (by kernel_rfl) rfl (by rfl) (fun W hSw => by go_simp) (fun _ _ _ h => h) (q0 _ (hbb.alloc hbb.size _)) ?_
            simp only [Act.put, List.setIfInBounds_toArray, List.set_cons_zero, List.set_cons_succ]
            refine wpAnyH_done (by kernel_rfl) ?_ _
            go_wp2_with fail
            go_meet
            case rel => exact ⟨rfl, w5.heap.size, rfl, by have := hbb.size; omega, K3.out.below (hbb.alloc hbb.size _), ((hbb.alloc hbb.size (.cells #[.int .i64 lx, .int .i64 ly] 28)).block n18 (Array.getElem?_eq_some_iff.1 h18).1).trans h18, heap_alloc_new w5 (.cells #[.int .i64 lx, .int .i64 ly] 28)⟩
          · go_simp
            refine hK _ _ (q0 _ ((((Below.refl wd.heap.size wd).alloc (Nat.le_refl _) (.cells #[.int .i64 3, .int .i64 0] 3)).alloc (by simp) (.cells #[.int .i64 0, .int .i64 0] 28)).drew)) ?_
            clear hK K
            refine held_call 12 (o := ⟨some 161, _, _, _, _, _⟩) (by kernel_rfl) rfl (by rfl) (fun K hK => ?_)
            go_simp
            go_wp2_with (go_at_call 13; refine (HUp.out _ (wd.heap.size) ((((Below.refl wd.heap.size wd).alloc (Nat.le_refl _) (.cells #[.int .i64 3, .int .i64 0] 3)).alloc (by simp) (.cells #[.int .i64 0, .int .i64 0] 28)).drew) (blk2 (heap_alloc2_old wd (.cells #[.int .i64 3, .int .i64 0] 3) (.cells #[.int .i64 0, .int .i64 0] 28))).1 (blk2 (heap_alloc2_old wd (.cells #[.int .i64 3, .int .i64 0] 3) (.cells #[.int .i64 0, .int .i64 0] 28))).2.1).mono ?_; rintro e1 w5 ⟨rfl, hb5⟩)
            have hbb := ((((Below.refl wd.heap.size wd).alloc (Nat.le_refl _) (.cells #[.int .i64 3, .int .i64 0] 3)).alloc (by simp) (.cells #[.int .i64 0, .int .i64 0] 28)).drew).trans (hb5.mono ((((Below.refl wd.heap.size wd).alloc (Nat.le_refl _) (.cells #[.int .i64 3, .int .i64 0] 3)).alloc (by simp) (.cells #[.int .i64 0, .int .i64 0] 28)).drew).size)
            refine hK _ _ (q0 _ hbb) ?_
            clear hK K
            refine held_take 13 (o := ⟨some 148, _, _, _, _, _⟩) (.tuple #[.agg #[.int .i64 lx, .int .i64 ly], .int .i64 0]) (by kernel_rfl) (by kernel_rfl) (by kernel_rfl) rfl (by rfl) (fun W hSw => by go_simp) (fun _ _ _ h => h) (q0 _ hbb) ?_
            simp only [Act.put, List.setIfInBounds_toArray, List.set_cons_zero, List.set_cons_succ]
            refine held_take 14 (o := ⟨some 162, _, _, _, _, _⟩) (.agg #[.int .i64 lx, .int .i64 ly]) (by kernel_rfl) (by kernel_rfl) (by kernel_rfl) rfl (by rfl) (fun W hSw => by go_simp) (fun _ _ _ h => h) (q0 _ hbb) ?_
            simp only [Act.put, List.setIfInBounds_toArray, List.set_cons_zero, List.set_cons_succ]
            refine held_take 15 (o := ⟨some 163, _, _, _, _, _⟩) (.int .i64 0) (by kernel_rfl) (by kernel_rfl) (by kernel_rfl) rfl (by rfl) (fun W hSw => by go_simp) (fun _ _ _ h => h) (q0 _ hbb) ?_
            simp only [Act.put, List.setIfInBounds_toArray, List.set_cons_zero, List.set_cons_succ]
            have hz2 : w5.heap[(wd.heap.size + 1)]? = some (.cells #[.int .i64 0, .int .i64 0] 28 (0, 0)) := (hb5.block (wd.heap.size + 1) (show wd.heap.size + 1 < ((wd.alloc (.cells #[.int .i64 3, .int .i64 0] 3)).alloc (.cells #[.int .i64 0, .int .i64 0] 28)).heap.size by simp)).trans (heap_alloc2_new wd (.cells #[.int .i64 3, .int .i64 0] 3) (.cells #[.int .i64 0, .int .i64 0] 28))
            obtain ⟨y0, y1, z0, z1⟩ := blk2 hz2
            refine held_call 17 (o := ⟨none, _, _, _, _, _⟩) (by kernel_rfl) rfl (by rfl) (fun K hK => ?_)
            go_simp
            have hBl : Below wd.heap.size wd ((w5.setCell ⟨(wd.heap.size + 1), 0, none⟩ (.int .i64 lx)).setCell ⟨(wd.heap.size + 1), 1, none⟩ (.int .i64 ly)) := (hbb.setCell (p := ⟨(wd.heap.size + 1), 0, none⟩) (by simp) _).setCell (p := ⟨(wd.heap.size + 1), 1, none⟩) (by simp) _
            refine hK _ _ (q0 _ hBl) ?_
            clear hK K
            refine held_take 18 (o := ⟨some 21, _, _, _, _, _⟩) (.int .i64 0) (by kernel_rfl) (by kernel_rfl) (by kernel_rfl) rfl (by rfl) (fun W hSw => by go_simp) (fun _ _ _ h => h) (q0 _ hBl) ?_
            simp only [Act.put, List.setIfInBounds_toArray, List.set_cons_zero, List.set_cons_succ]
            refine wpAnyH_done (by kernel_rfl) ?_ _
            go_wp2_with fail
            go_meet
            case rel => exact ⟨rfl, (wd.heap.size + 1), rfl, by omega, K3.out.below hBl, (hBl.block n18 (Array.getElem?_eq_some_iff.1 h18).1).trans h18, set2a hz2 _ _⟩
        · go_simp
          refine hK _ _ (q0 _ (((Below.refl wd.heap.size wd).alloc (Nat.le_refl _) (.cells #[.int .i64 0, .int .i64 0] 28)).drew)) ?_
          clear hK K
          refine held_call 11 (o := ⟨some 160, _, _, _, _, _⟩) (by kernel_rfl) rfl (by rfl) (fun K hK => ?_)
          go_simp
          refine hK _ _ (q0 _ ((((Below.refl wd.heap.size wd).alloc (Nat.le_refl _) (.cells #[.int .i64 0, .int .i64 0] 28)).alloc (by simp) (.cells #[.int .i64 3, .int .i64 0] 3)).drew)) ?_
          clear hK K
          refine held_call 12 (o := ⟨some 161, _, _, _, _, _⟩) (by kernel_rfl) rfl (by rfl) (fun K hK => ?_)
          go_simp
          go_wp2_with (go_at_call 13; refine (HUp.out _ ((wd.heap.size + 1)) ((((Below.refl wd.heap.size wd).alloc (Nat.le_refl _) (.cells #[.int .i64 0, .int .i64 0] 28)).alloc (by simp) (.cells #[.int .i64 3, .int .i64 0] 3)).drew) (blk2 (heap_alloc2_new wd (.cells #[.int .i64 0, .int .i64 0] 28) (.cells #[.int .i64 3, .int .i64 0] 3))).1 (blk2 (heap_alloc2_new wd (.cells #[.int .i64 0, .int .i64 0] 28) (.cells #[.int .i64 3, .int .i64 0] 3))).2.1).mono ?_; rintro e1 w5 ⟨rfl, hb5⟩)
          have hbb := ((((Below.refl wd.heap.size wd).alloc (Nat.le_refl _) (.cells #[.int .i64 0, .int .i64 0] 28)).alloc (by simp) (.cells #[.int .i64 3, .int .i64 0] 3)).drew).trans (hb5.mono ((((Below.refl wd.heap.size wd).alloc (Nat.le_refl _) (.cells #[.int .i64 0, .int .i64 0] 28)).alloc (by simp) (.cells #[.int .i64 3, .int .i64 0] 3)).drew).size)
          refine hK _ _ (q0 _ hbb) ?_
          clear hK K
          refine held_take 13 (o := ⟨some 148, _, _, _, _, _⟩) (.tuple #[.agg #[.int .i64 lx, .int .i64 ly], .int .i64 0]) (by kernel_rfl) (by kernel_rfl) (by kernel_rfl) rfl (by rfl) (fun W hSw => by go_simp) (fun _ _ _ h => h) (q0 _ hbb) ?_
          simp only [Act.put, List.setIfInBounds_toArray, List.set_cons_zero, List.set_cons_succ]
          refine held_take 14 (o := ⟨some 162, _, _, _, _, _⟩) (.agg #[.int .i64 lx, .int .i64 ly]) (by kernel_rfl) (by kernel_rfl) (by kernel_rfl) rfl (by rfl) (fun W hSw => by go_simp) (fun _ _ _ h => h) (q0 _ hbb) ?_
          simp only [Act.put, List.setIfInBounds_toArray, List.set_cons_zero, List.set_cons_succ]
          refine held_take 15 (o := ⟨some 163, _, _, _, _, _⟩) (.int .i64 0) (by kernel_rfl) (by kernel_rfl) (by kernel_rfl) rfl (by rfl) (fun W hSw => by go_simp) (fun _ _ _ h => h) (q0 _ hbb) ?_
          simp only [Act.put, List.setIfInBounds_toArray, List.set_cons_zero, List.set_cons_succ]
          have hz2 : w5.heap[wd.heap.size]? = some (.cells #[.int .i64 0, .int .i64 0] 28 (0, 0)) := (hb5.block wd.heap.size (show wd.heap.size < ((wd.alloc (.cells #[.int .i64 0, .int .i64 0] 28)).alloc (.cells #[.int .i64 3, .int .i64 0] 3)).heap.size by simp; omega)).trans (heap_alloc2_old wd (.cells #[.int .i64 0, .int .i64 0] 28) (.cells #[.int .i64 3, .int .i64 0] 3))
          obtain ⟨y0, y1, z0, z1⟩ := blk2 hz2
          refine held_call 17 (o := ⟨none, _, _, _, _, _⟩) (by kernel_rfl) rfl (by rfl) (fun K hK => ?_)
          go_simp
          have hBl : Below wd.heap.size wd ((w5.setCell ⟨wd.heap.size, 0, none⟩ (.int .i64 lx)).setCell ⟨wd.heap.size, 1, none⟩ (.int .i64 ly)) := (hbb.setCell (p := ⟨wd.heap.size, 0, none⟩) (by simp) _).setCell (p := ⟨wd.heap.size, 1, none⟩) (by simp) _
          refine hK _ _ (q0 _ hBl) ?_
          clear hK K
          refine held_take 18 (o := ⟨some 21, _, _, _, _, _⟩) (.int .i64 0) (by kernel_rfl) (by kernel_rfl) (by kernel_rfl) rfl (by rfl) (fun W hSw => by go_simp) (fun _ _ _ h => h) (q0 _ hBl) ?_
          simp only [Act.put, List.setIfInBounds_toArray, List.set_cons_zero, List.set_cons_succ]
          refine wpAnyH_done (by kernel_rfl) ?_ _
          go_wp2_with fail
          go_meet
          case rel => exact ⟨rfl, wd.heap.size, rfl, by omega, K3.out.below hBl, (hBl.block n18 (Array.getElem?_eq_some_iff.1 h18).1).trans h18, set2a hz2 _ _⟩
      case rest =>
      -- R34
      obtain ⟨rfl, n20, rfl, hn20, K5, h18b, h20⟩ := hcut
      obtain ⟨wf, hwf⟩ : ∃ wf, wf = wc := ⟨wc, rfl⟩
      subst hwf
      clear K3 K4 hc0 hc1 h18
      have K4 := hide (K1.out.below K5.out.bel)
      obtain ⟨g9, c9, hv9, hc0, hc1⟩ := K4.out.lcell HPp.out
      obtain rfl : gl = g9 := by simp at hv9; exact hv9.1
      have hgl : gl < wb.heap.size := by
        obtain ⟨g8, c8, hv8, hc8, -⟩ := K1.out.lcell HPp.out
        obtain rfl : gl = g8 := by simp at hv8; exact hv8.1
        exact cell_lt' hc8
      have hgl2 : gl ≠ wb.heap.size := by omega
      have hu1 : upOf line th (k3 + 1) = ((p.1 : Int), (p.2 : Int)) := by simp only [upOf, HTt.out, if_true, getD_of HPp.out]
      have hgd := getD_of HPp.out
      obtain ⟨a0, a1, -, -⟩ := blk2 h18b
      obtain ⟨b0, b1, -, -⟩ := blk2 h20
      obtain ⟨c0, c1, cf0, cf1⟩ := blk2 K5.out.up
      obtain ⟨d0, d1, -, -⟩ := blk2 K5.out.last
      have KP := hide (K5.out.put (p.1 : Int) (p.2 : Int))
      obtain ⟨U, hU⟩ : ∃ U, upOf line th k3 = U := ⟨_, rfl⟩
      obtain ⟨Lq, hLq⟩ : ∃ Lq, lastOf line th k3 = Lq := ⟨_, rfl⟩
      rw [hU] at a0 a1 c0 c1
      rw [hLq] at b0 b1 d0 d1 KP
      obtain ⟨ux, uy⟩ := U
      obtain ⟨lx, ly⟩ := Lq
      dsimp only at a0 a1 c0 c1 b0 b1 d0 d1
      clear hv9 h18b h20 K4 K5 hU
      go_upto_region 37 with fail
      generalize (wf.setCell ⟨wb.heap.size, 0, none⟩ (.int .i64 (p.1 : Int))).setCell ⟨wb.heap.size, 1, none⟩ (.int .i64 (p.2 : Int)) = wp at *
      clear a0 a1 b0 b1 c0 c1 d0 d1 cf0 cf1 hc0 hc1
      obtain ⟨c0, c1, -, -⟩ := blk2 KP.out.up
      obtain ⟨d0, d1, df0, df1⟩ := blk2 KP.out.last
      dsimp only at c0 c1 d0 d1
      by_cases hz0 : p.1 = 0
      · have hl1 : lastOf line th (k3 + 1) = ((p.1 : Int), (p.2 : Int)) := by simp only [lastOf, HTt.out, hgd, hz0, true_and, true_or, if_true]
        have KE : Hid (PL wb ((wp.setCell ⟨wb.heap.size + 1, 0, none⟩ (.int .i64 (p.1 : Int))).setCell ⟨wb.heap.size + 1, 1, none⟩ (.int .i64 (p.2 : Int))) (upOf line th (k3 + 1)) (lastOf line th (k3 + 1))) := by rw [hu1, hl1]; exact KP.out.putL _ _
        have hzi : ((p.1 : Int) == 0) = true := by simp; omega
        have hzd : decide ((p.1 : Int) = 0) = true := by simp; omega
        clear KP hu1 hl1 hz0
        go_wp2
        go_roundw
        case rel =>
          first
            | exact ⟨k3 + 1, by omega, by go_num, KE⟩
            | ((repeat apply Exists.intro); refine ⟨?_, rfl⟩; exact ⟨k3 + 1, by omega, by go_num, KE⟩)
        case measure => simp [intOf]; omega
      by_cases hz3 : p.1 = 3
      · have hl1 : lastOf line th (k3 + 1) = ((p.1 : Int), (p.2 : Int)) := by simp only [lastOf, HTt.out, hgd, hz3, true_and, or_true, if_true]
        have KE : Hid (PL wb ((wp.setCell ⟨wb.heap.size + 1, 0, none⟩ (.int .i64 (p.1 : Int))).setCell ⟨wb.heap.size + 1, 1, none⟩ (.int .i64 (p.2 : Int))) (upOf line th (k3 + 1)) (lastOf line th (k3 + 1))) := by rw [hu1, hl1]; exact KP.out.putL _ _
        have hzi0 : ((p.1 : Int) == 0) = false := by simp; omega
        have hzd0 : decide ((p.1 : Int) = 0) = false := by simp; omega
        have hzi : ((p.1 : Int) == 3) = true := by simp; omega
        have hzd : decide ((p.1 : Int) = 3) = true := by simp; omega
        clear KP hu1 hl1 hz3
        go_wp2
        go_roundw
        case rel =>
          first
            | exact ⟨k3 + 1, by omega, by go_num, KE⟩
            | ((repeat apply Exists.intro); refine ⟨?_, rfl⟩; exact ⟨k3 + 1, by omega, by go_num, KE⟩)
        case measure => simp [intOf]; omega
      · have hl1 : lastOf line th (k3 + 1) = (lx, ly) := by rw [← hLq]; simp only [lastOf, HTt.out, hgd, hz0, hz3, or_self, and_false, if_false]
        have KE : Hid (PL wb wp (upOf line th (k3 + 1)) (lastOf line th (k3 + 1))) := by rw [hu1, hl1]; exact KP
        have hzi0 : ((p.1 : Int) == 0) = false := by simp; omega
        have hzd0 : decide ((p.1 : Int) = 0) = false := by simp; omega
        have hzi3 : ((p.1 : Int) == 3) = false := by simp; omega
        have hzd3 : decide ((p.1 : Int) = 3) = false := by simp; omega
        have hzn0 : ¬ ((p.1 : Int) = 0) := by omega
        have hzn3 : ¬ ((p.1 : Int) = 3) := by omega
        clear KP hu1 hl1 hz0 hz3
        go_wp2
        go_roundw
        case rel =>
          first
            | exact ⟨k3 + 1, by omega, by go_num, KE⟩
            | ((repeat apply Exists.intro); refine ⟨?_, rfl⟩; exact ⟨k3 + 1, by omega, by go_num, KE⟩)
        case measure => simp [intOf]; omega
  · have hnk : ¬ (k3 : Int) < (N : Int) := by omega
    have HB := hide (K1.out.bel.trans (K3.out.bel.mono K1.out.bel.size))
    go_wp2
    go_ret
    exact ⟨rfl, HB.out⟩
end Go.Proofs.Ytimfgjndgfjjgaa
