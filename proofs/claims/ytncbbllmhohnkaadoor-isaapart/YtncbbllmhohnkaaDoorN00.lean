import Derived.OneCell
import Derived.ArgAppend
import Derived.Deep.DeepAppendRoom
import Derived.Test.YtncbbllmhohnkaaDoorM18
namespace Go.Proofs.YtncbbllmhohnkaaDoor
open Go.RowKit
theorem cell_two_new (w : World) (t : TypeId) (a b : Value) : ∀ j v, [a, b][j]? = some v → (w.alloc (.cells #[a, b] t)).cell? ((⟨w.heap.size, 0, none⟩ : Addr).add j) = some v := by
  intro j v hv
  rw [add0, World.cell?_alloc_new]
  match j, hv with
  | 0, hv => exact hv
  | 1, hv => exact hv
  | j + 2, hv => simp at hv
theorem set_rep {c : Nat} {ns : List Nat} {j : Nat} (hj : j < ns.length) : (wds (List.replicate j c ++ ns.drop j)).set j (.int .u32 (c : Nat)) = wds (List.replicate (j + 1) c ++ ns.drop (j + 1)) := by
  unfold wds
  rw [← List.map_set]
  congr 1
  rw [List.set_append_right _ _ (by simp), List.length_replicate, Nat.sub_self, List.drop_eq_getElem_cons hj, List.set_cons_zero, List.replicate_succ', List.append_assoc]
  rfl
theorem ne_block {W : World} {B B' : Nat} {g m c n : Nat} {ys : List Value} {v : Value} {e : TypeId} (ha : ∀ k, (Value.slice (some ⟨g, 0, none⟩) m c).ownBlock = some k → B ≤ k ∧ k < B') (hb : W.ownsRow B' e 1 v n ys) : v.ownBlock ≠ some g := by
  intro h
  have h1 := (hb.lt g h).1
  have h2 := (ha g rfl).2
  omega
/-- an append that leaves what the old slice reads -/
theorem append_keeps {P : Program} {w : World} {ops : Array Oper} {rest : List Oper} {o : Oper} {a : Act} {Q : Exit → Act → World → Prop} (hgd : o.guard = none) (s x : Operand) (t : TypeId)
    (ho : o.op = .call { callee := .builtin .append, args := #[s, x], argTypes := #[t, t] })
    (base : Nat) (e : TypeId) (i : TypeInfo) (z : Value) (bytes : Nat) (ht : P.underlying t = some (.slice e)) (hi : P.info? e = some i) (hz : i.zero = some z)
    (hsize : i.size = 1) (hby : i.bytes = bytes) (hzs : z.cells.size = 1)
    (ao : Option Addr) (n cap : Nat) (xs : List Value) (hs : a.eval s = .slice ao n cap) (hown : w.ownsRow base e 1 (.slice ao n cap) n xs)
    (ad : Addr) (m c : Nat) (news : List Value) (hx : a.eval x = .slice (some ad) m c) (hl : news.length = m * 1) (hnews : ∀ j u, news[j]? = some u → w.cell? (ad.add j) = some u) (h1 : ∀ u ∈ news, u.oneCell' = true)
    (h63 : n + m ≤ maxLen) (hbytes : (n + m) * bytes ≤ 140737488355328) (hbase : base ≤ w.heap.size)
    (h : ∀ v' w', w'.ownsRow base e 1 v' (n + m) (xs ++ news) → w.grownBy w' (Value.slice ao n cap).ownBlock → (∀ g, ao = some ⟨g, 0, none⟩ → ∀ j u, xs[j]? = some u → w'.cell? ⟨g, j, none⟩ = some u) → wpList P ops Q rest (a.put o.dst v') w') : wpList P ops Q (o :: rest) a w := by
  have hxl := hown.1
  rcases hown.2 with ⟨h0, h00⟩ | ⟨g, cp, cur, h0, hb, h3, hc, _, _, h7⟩
  · cases h0
    exact wpList_append_own _ hgd s x t ho base e i z 1 bytes ht hi hz hsize hby hzs (by decide) _ _ xs hs hown ad m c news hx hl hnews h1 h63 hbytes hbase fun v' w' h2 h3 _ => h v' w' h2 h3 (fun g hg => by cases hg)
  · cases h0
    by_cases hr : n + m ≤ cap
    · refine wpList_append_own_spare _ hgd s x t ho base e i 1 ht hi hsize g n cap xs hs hown ad m c news hx hl hnews h1 hr fun w' h2 h3 => h _ w' h2 h3 ?_
      intro g' hg' j u hu
      cases hg'
      have hj : j < xs.length := (List.getElem?_eq_some_iff.1 hu).1
      rw [h2.cellAt j (by omega), List.getElem?_append_left hj]
      exact hu
    · refine wpList_append_grows w hgd s x t ho e i z 1 bytes ht hi hz hsize hby hzs (by decide) (some ⟨g, 0, none⟩) n cap xs hs (fun e => by cases e) hxl (fun b hb' => by cases hb'; exact hown.cells rfl) ad m c news hx hl hnews h1 (by omega) h63 hbytes fun v' w' r1 r2 => h v' w' (own_mono r1 hbase) ⟨r2.os, r2.tape, r2.output, r2.size, fun k hk _ => r2.block k hk (by simp)⟩ ?_
      intro g' hg' j u hu
      cases hg'
      have hj : j < xs.length := (List.getElem?_eq_some_iff.1 hu).1
      have hlt : g < w.heap.size := (Array.getElem?_eq_some_iff.1 h3).1
      rw [World.cell?_of_block (a := ⟨g, j, none⟩) (r2.block g hlt (by simp)), hown.cellAt j (by omega)]
      exact hu
/-- a row with two cells behind it -/
theorem own_room {W : World} {base : Nat} {v : Value} {ns : List Nat} {x y : Value} (h : W.ownsRow base 29 1 v (ns.length + 2) (wds ns ++ [x, y])) :
    ∃ g c, v = .slice (some ⟨g, 0, none⟩) (ns.length + 2) c ∧ ns.length + 2 ≤ c ∧ base ≤ g ∧ Wd W (some ⟨g, 0, none⟩) ns ∧ W.cell? ((⟨g, 0, none⟩ : Addr).add ns.length) = some x ∧ W.cell? ((⟨g, 0, none⟩ : Addr).add (ns.length + 1)) = some y := by
  have hl : (wds ns).length = ns.length := by simp [wds]
  rcases h.2 with ⟨_, h2⟩ | ⟨g, cap, cur, h1, hb, h3, hc, _, _, h7⟩
  · omega
  · have at' : ∀ j v, j < ns.length + 2 → (wds ns ++ [x, y])[j]? = some v → W.cell? ((⟨g, 0, none⟩ : Addr).add j) = some v := by
      intro j v hj e
      rw [add0, Lib.cell_of_heap h3]
      rw [← h7, List.getElem?_take] at e
      split at e
      · rw [← Array.getElem?_toList]; exact e
      · simp at e
    refine ⟨g, cap, h1, hc, hb, fun j hj => ⟨_, rfl, at' j _ (by omega) ?_⟩, at' _ _ (by omega) ?_, at' _ _ (by omega) ?_⟩
    · rw [List.getElem?_append_left (by omega)]; simp [wds, hj]
    · rw [List.getElem?_append_right (by omega), hl]; simp
    · rw [List.getElem?_append_right (by omega), hl, show ns.length + 1 - ns.length = 1 by omega]; rfl
theorem cell_keep {W W' : World} {a : Addr} {v : Value} (h : W.cell? a = some v) (hb : Below W.heap.size W W') : W'.cell? a = some v := by
  rw [hb.cell (addr_lt h)]; exact h
section
variable (w : World)
set_option maxRecDepth 100000 in
theorem words_own (ao : Option Addr) (cap : Nat) (ns : List Nat) (hl : ns.length ≤ 1048576) (hW : Wd w ao ns) (ha : ao = none → ns.length = 0 ∧ cap = 0) : Calls Tryd.prog 19 #[.slice ao ns.length cap] w fun e w' => ∃ v, e = .returned v ∧ w'.ownsRow w.heap.size 29 1 v ns.length (wds ns) ∧ Below w.heap.size w w' := by
  obtain ⟨i5, hi, hz, hs, hb⟩ := info_u32
  have h0 : w.ownsRow w.heap.size 29 1 (.slice none 0 0) 0 [] := ⟨rfl, .inl ⟨rfl, rfl⟩⟩
  cases ao with
  | none =>
    obtain ⟨e1, rfl⟩ := ha rfl
    obtain rfl := List.eq_nil_of_length_eq_zero e1
    go_enter Tryd.func19, Tryd.ntmps19
    go_wp2
    go_ret
    exact ⟨_, rfl, h0, Below.refl _ _⟩
  | some a =>
    have HN : Hid (∀ j u, (ns.map fun x => Value.int .u32 ((x : Nat) : Int))[j]? = some u → w.cell? (a.add j) = some u) := hide (by
      intro j u hu
      rw [List.getElem?_map] at hu
      by_cases hj : j < ns.length
      · obtain ⟨a', h1, h2⟩ := hW j hj
        cases h1
        rw [List.getElem?_eq_getElem hj] at hu
        simp at hu
        rw [h2, ← hu]
      · rw [List.getElem?_eq_none (by omega)] at hu
        simp at hu)
    clear hW ha
    go_enter Tryd.func19, Tryd.ntmps19
    go_upto_region 3 with (at_builtin; refine wpList_append_own _ rfl _ _ 25 rfl w.heap.size 29 i5 (.int .u32 0) 1 4 Tryd.underlying25 hi hz hs hb rfl (by decide) (.slice none 0 0) 0 [] rfl h0 a ns.length cap (ns.map fun x => Value.int .u32 (x : Nat)) rfl (by simp) HN.out (by intro u hu; simp at hu; obtain ⟨x, _, rfl⟩ := hu; rfl) (by unfold maxLen; omega) (by omega) (by omega) ?_; intro v2 w2 ho2 hg2 _; obtain ⟨a2, c2, rfl⟩ := own_shape ho2)
    have HB2 := hide ((Below.refl w.heap.size w).grown hg2 (by omega) (fun j hj => by simp [Value.ownBlock] at hj))
    have HW2 : Hid (w2.ownsRow w.heap.size 29 1 (.slice a2 ns.length c2) ns.length (wds ns)) := hide (by rw [Nat.zero_add] at ho2; exact ho2)
    clear ho2 hg2
    go_wp2
    go_ret
    exact ⟨_, rfl, HW2.out, HB2.out⟩
set_option maxRecDepth 100000 in
set_option maxHeartbeats 2000000 in
theorem apart_walk (ao : Option Addr) (cap : Nat) (ns : List Nat) (hn : ∀ x ∈ ns, x < 4294967296) (hW : Wd w ao ns) (ha : ao = none → ns.length = 0 ∧ cap = 0) (hT : Tb w) : Calls Tryd.prog 8 #[.slice ao ns.length cap] w fun e w' => e = .returned (.bool true) ∧ Below w.heap.size w w' := by
  obtain ⟨i5, hi, hz, hsz, hbt⟩ := info_u32
  have HN := hide hn
  have HW := hide hW
  have HT := hide hT
  clear hn hW hT
  by_cases h5 : ns.length ≤ 512
  rotate_left
  · have h5I : (512 : Int) < (ns.length : Int) := by omega
    go_enter Tryd.func8, Tryd.ntmps8
    go_wp2_with fail
    refine (known_any _ HT.out.ops).mono ?_
    rintro e w1 ⟨rfl, hb⟩
    have HB1 := hide hb
    clear hb
    go_wp2
    go_ret
    exact ⟨rfl, HB1.out⟩
  have hl : ns.length ≤ 1048576 := by omega
  have h5I : ¬ (512 : Int) < (ns.length : Int) := by omega
  go_enter Tryd.func8, Tryd.ntmps8
  go_wp2_with fail
  refine (known_any _ HT.out.ops).mono ?_
  rintro e w1 ⟨rfl, hb⟩
  have HB1 := hide hb
  clear hb
  go_wp2_with fail
  refine (words_own _ ao cap ns hl (HW.out.below HB1.out) ha).mono ?_
  rintro e w2 ⟨v2, rfl, hO2, hb2⟩
  have HB2 := hide (HB1.out.trans (hb2.mono HB1.out.size))
  have HO2 := hide hO2
  have hs2 := hb2.size
  obtain ⟨r2, c2, rfl⟩ := own_shape hO2
  clear hO2 hb2
  go_upto_region 7 with (at_builtin; refine wpList_append_own _ rfl _ _ 25 rfl w1.heap.size 29 i5 (.int .u32 0) 1 4 Tryd.underlying25 hi hz hsz hbt rfl (by decide) _ _ _ rfl (HO2.out.alloc _) ⟨_, 0, none⟩ 2 2 [.int .u32 2779096485, .int .u32 1515870810] rfl rfl (cell_two_new _ _ _ _) (by simp [Value.oneCell']) (by unfold maxLen; omega) (by omega) (by simp; omega) ?_; rintro v3 w3 ho3 hg3 -; obtain ⟨a3, c3, rfl⟩ := own_shape ho3)
  have HB3 := hide ((HB2.out.alloc HB2.out.size _).grown hg3 (by have := HB2.out.size; simp; omega) (fun k hk => Nat.le_trans HB1.out.size (HO2.out.lt k hk).1))
  obtain ⟨g3, d3, e3, hc3, hg3', hW3, hx3, hy3⟩ := own_room ho3
  cases e3
  have HW3 := hide hW3
  have HX3 := hide hx3
  have HY3 := hide hy3
  clear ho3 hg3 HO2 HB2 HB1 hW3 hx3 hy3 hs2 ha
  have hcI : (ns.length : Int) ≤ (c3 : Int) := by omega
  go_wp2_with fail
  refine (dis_any _ (some ⟨g3, 0, none⟩) c3 ns HN.out hl HW3.out (HT.out.below HB3.out)).mono ?_
  rintro e w4 ⟨rfl, hb4⟩
  have HB4 := hide (HB3.out.trans (hb4.mono HB3.out.size))
  have HW4 := hide (HW3.out.below hb4)
  have HX4 := hide (cell_keep HX3.out hb4)
  have HY4 := hide (cell_keep HY3.out hb4)
  have HA := hide (fun W h => asm_back W ns HN.out h5 h)
  clear hb4 HB3 HW3 HX3 HY3
  generalize tls ns = T at *
  go_wp2_with fail
  refine (same_any _ (some ⟨g3, 0, none⟩) ao c3 cap ns hl HW4.out (HW.out.below HB4.out)).mono ?_
  rintro e w5 ⟨rfl, hb5⟩
  have HB5 := hide (HB4.out.trans (hb5.mono HB4.out.size))
  have hx5 := cell_keep HX4.out hb5
  have hy5 := cell_keep HY4.out hb5
  rw [add0] at hx5 hy5
  clear hb5 HB4 HW4 HX4 HY4
  go_upto_region 10 with fail
  clear hx5 hy5
  go_wp2_with fail
  refine (HA.out _ (HT.out.below HB5.out).ops).mono ?_
  rintro e w6 ⟨va, rfl, hO6, hb6⟩
  have HB6 := hide (HB5.out.trans (hb6.mono HB5.out.size))
  have HO6 := hide hO6
  have hs6 := hb6.size
  clear hb6
  obtain ⟨ra, ca, rfl⟩ := own_shape hO6
  clear hO6
  go_wp2_with fail
  refine (HA.out _ (HT.out.below HB6.out).ops).mono ?_
  rintro e w7 ⟨vb, rfl, hO7, hb7⟩
  have HB7 := hide (HB6.out.trans (hb7.mono HB6.out.size))
  have HOb := hide hO7
  have HOa := hide (own_below HO6.out hb7)
  have HLa := hide (fun k hk => HO6.out.lt k hk)
  have hs7 := hb7.size
  clear hb7
  obtain ⟨rb, cb, rfl⟩ := own_shape hO7
  obtain ⟨mo, cm, em, hWb⟩ := Wd.of HOb.out
  cases em
  clear hO7 hWb HB6 HO6
  go_wp2_with fail
  obtain ⟨xo, xm, ex, hWa⟩ := Wd.of HOa.out
  cases ex
  refine (same_any _ ra ao ca cap ns hl hWa (HW.out.below HB7.out)).mono ?_
  rintro e w8 ⟨rfl, hb8⟩
  have HB8 := hide (HB7.out.trans (hb8.mono HB7.out.size))
  have HOa8 := hide (own_below HOa.out hb8)
  have HOb8 := hide (own_below HOb.out hb8)
  have hs8 : w6.heap.size ≤ w8.heap.size := Nat.le_trans hs7 hb8.size
  clear hb8 hWa HOa HOb HB7
  go_upto_region 15 with fail
  go_loopw [11] (fun k wr => ∃ j : Nat, j ≤ ns.length ∧ k = .int .i64 (j : Int) ∧ wr.ownsRow w5.heap.size 29 1 (.slice ra ns.length ca) ns.length (wds (List.replicate j 286331153 ++ ns.drop j)) ∧ wr.ownsRow w6.heap.size 29 1 (.slice rb ns.length cb) ns.length (wds ns) ∧ Below w.heap.size w wr ∧ w6.heap.size ≤ wr.heap.size) (fun k _ => ns.length - (intOf k).toNat)
  case atStart => exact ⟨0, by omega, rfl, by simpa using HOa8.out, HOb8.out, HB8.out, hs8⟩
  case round =>
  obtain ⟨j, hj, rfl, hoa, hob, hbw, hsw⟩ := hrel
  by_cases hlt : j < ns.length
  · obtain ⟨ga, rfl⟩ : ∃ ga, ra = some ⟨ga, 0, none⟩ := by
      rcases hoa.2 with ⟨_, h2⟩ | ⟨g, _, _, h1, _⟩
      · omega
      · cases h1; exact ⟨_, rfl⟩
    have c0 := hoa.cellAt j (by omega)
    rw [List.getElem?_eq_getElem (by simp [wds]; omega)] at c0
    have f0 := hoa.frozenAt j
    have HS := hide (hoa.stored j (.int .u32 286331153)).1
    have HG := hide (ownsRow_setCell_other (a := ⟨ga, j, none⟩) hob (ne_block HLa.out hob) (.int .u32 286331153))
    have HBw := hide hbw
    have hga := (HLa.out ga rfl).1
    have hI : (j : Int) < (ns.length : Int) := by omega
    generalize (wds (List.replicate j 286331153 ++ ns.drop j))[j]'(by simp [wds]; omega) = xj at *
    clear hoa hob hbw
    go_wp2
    refine ⟨⟨j + 1, by omega, by simp, by rw [← set_rep hlt]; exact HS.out, HG.out, HBw.out.setCell (by show w.heap.size ≤ ga; have := HB5.out.size; omega) _, by simpa [World.setCell] using hsw⟩, ?_⟩
    simp [intOf]
    omega
  · obtain rfl : j = ns.length := by omega
    have HOa9 : Hid (wr.ownsRow w5.heap.size 29 1 (.slice ra ns.length ca) ns.length (wds (List.replicate ns.length 286331153))) := hide (by simpa using hoa)
    have HOb9 := hide hob
    have HB9 := hide hbw
    clear hoa hob hbw
    obtain ⟨yo, ym, ey, hWb⟩ := Wd.of HOb9.out
    cases ey
    have HWb := hide hWb
    clear hWb
    go_upto_region 19 with fail
    go_wp2_with fail
    refine (same_any _ rb ao cb cap ns hl HWb.out (HW.out.below HB9.out)).mono ?_
    rintro e wa ⟨rfl, hba⟩
    have HBa := hide (HB9.out.trans (hba.mono HB9.out.size))
    have HOaa := hide (own_below HOa9.out hba)
    have HOba := hide (own_below HOb9.out hba)
    have hsa := Nat.le_trans hsw hba.size
    have hrl : (List.replicate ns.length 286331153).length = ns.length := by simp
    clear hba HOa9 HOb9 HB9 HWb
    go_upto_region 22 with (at_builtin; refine append_keeps rfl _ _ 25 rfl w5.heap.size 29 i5 (.int .u32 0) 4 Tryd.underlying25 hi hz hsz hbt rfl _ _ _ _ rfl (HOaa.out.alloc _) ⟨_, 0, none⟩ 2 2 [.int .u32 2, .int .u32 2] rfl rfl (cell_two_new _ _ _ _) (by simp [Value.oneCell']) (by unfold maxLen; omega) (by omega) (by simp; omega) ?_; rintro vc wc hoc hgc hkc; obtain ⟨rc, cc, rfl⟩ := own_shape hoc)
    have HBc := hide ((HBa.out.alloc HBa.out.size _).grown hgc (by have := HBa.out.size; simp; omega) (fun k hk => Nat.le_trans HB5.out.size (HLa.out k hk).1))
    have HObc := hide ((HOba.out.alloc (.cells #[.int .u32 2, .int .u32 2] 29)).kept hgc (by
      rcases h9 : (Value.slice rb ns.length cb).ownBlock with _ | kb
      · exact .inl rfl
      · refine .inr fun h8 => ?_
        have h1 := (HOba.out.lt kb h9).1
        have h2 := (HLa.out kb h8.symm).2
        omega))
    have HK : Hid (∀ j, j < ns.length → ∃ ga, ra = some ⟨ga, 0, none⟩ ∧ wc.cell? ⟨ga, j, none⟩ = some (.int .u32 286331153)) := hide (by
      intro j hj
      rcases HOaa.out.2 with ⟨_, h2⟩ | ⟨g, _, _, h1, _⟩
      · omega
      · cases h1
        exact ⟨_, rfl, hkc _ rfl j _ (by simp [wds, hj])⟩)
    clear hoc hgc hkc HOba HOaa HBa
    go_wp2_with fail
    refine (HA.out _ (HT.out.below HBc.out).ops).mono ?_
    rintro e wd ⟨vd, rfl, hOd, hbd⟩
    have HBd := hide (HBc.out.trans (hbd.mono HBc.out.size))
    have HObd := hide (own_below HObc.out hbd)
    have HKd : Hid (∀ j, j < ns.length → ∃ ga, ra = some ⟨ga, 0, none⟩ ∧ wd.cell? ⟨ga, j, none⟩ = some (.int .u32 286331153)) := hide (fun j hj => by
      obtain ⟨ga, h1, h2⟩ := HK.out j hj
      exact ⟨ga, h1, cell_keep h2 hbd⟩)
    obtain ⟨rd, cd, rfl, hWd⟩ := Wd.of hOd
    obtain ⟨yo, ym, ey, hWb⟩ := Wd.of HObd.out
    cases ey
    have HWb := hide hWb
    have HWd := hide hWd
    clear hbd hOd hWd hWb HBc HObc HK HObd HA HLa HB5
    go_upto_region 24 with fail
    go_loopw [16] (fun k wr => ∃ j : Nat, j ≤ ns.length ∧ k = .int .i64 (j : Int) ∧ ∃ d, wr = wd.drewN d) (fun k _ => ns.length - (intOf k).toNat)
    case atStart => exact ⟨0, by omega, rfl, 0, by rw [World.drewN_zero]⟩
    case round =>
    obtain ⟨j, hj, rfl, d, rfl⟩ := hrel
    by_cases hlt : j < ns.length
    · obtain ⟨ga, rfl, c0⟩ := HKd.out j hlt
      have hd : (j : Int) < (ns.length : Int) := by omega
      have e0 : ∀ n, (wd.drewN n).cell? ⟨ga, j, none⟩ = some (.int .u32 286331153) := fun n => by rw [World.cell?_drewN]; exact c0
      go_wp2
      refine ⟨⟨j + 1, by omega, by simp, d, rfl⟩, ?_⟩
      simp [intOf]
      omega
    · obtain rfl : j = ns.length := by omega
      have HBe := hide (show Below w.heap.size w (wd.drewN d) from ⟨HBd.out.os, HBd.out.tape, HBd.out.output, HBd.out.size, HBd.out.block⟩)
      have hWx : Below wd.heap.size wd (wd.drewN d) := ⟨rfl, rfl, rfl, Nat.le_refl _, fun _ _ => rfl⟩
      have HWb' := hide (HWb.out.below hWx)
      have HWd' := hide (HWd.out.below hWx)
      generalize wd.drewN d = we at *
      clear hWx HWb HWd HBd HKd
      go_wp2_with fail
      refine (same_any _ rb ao cb cap ns hl HWb'.out (HW.out.below HBe.out)).mono ?_
      rintro e wf ⟨rfl, hbf⟩
      have HBf := hide (HBe.out.trans (hbf.mono HBe.out.size))
      have HWf := hide (HWd'.out.below hbf)
      clear hbf HBe HWd' HWb'
      go_wp2_with fail
      refine (same_any _ rd ao cd cap ns hl HWf.out (HW.out.below HBf.out)).mono ?_
      rintro e wg ⟨rfl, hbg⟩
      have HBg := hide (HBf.out.trans (hbg.mono HBf.out.size))
      clear hbg HBf HWf
      go_wp2
      go_ret
      exact ⟨rfl, HBg.out⟩
end
end Go.Proofs.YtncbbllmhohnkaaDoor
