import Derived.Test.YtbfagiofhakjnaaDoorMA15
namespace Go.Proofs.YtbfagiofhakjnaaDoor
open Go.RowKit
theorem reg_two {f : Tx} {n : Nat} (h : regT f = some n) : ∃ x y, f = [x, y] := by
  match f with
  | [] => cases h
  | [_] => cases h
  | _ :: _ :: _ :: _ => cases h
  | [a, b] => exact ⟨a, b, rfl⟩
section
variable (w : World)
set_option maxRecDepth 100000 in
set_option maxHeartbeats 4000000 in
theorem put_000e (ds : List Dl) (ao : Option Addr) (cap : Nat) (d : Dl) (fo : Option Addr) (c : Nat) (ws : List Nat) (v : Value) (base : Nat) (at' : Int) (n : Nat) (hW : ¬ d.name = [46, 119, 111, 114, 100]) (hZ : ¬ d.name = [46, 122, 101, 114, 111]) (ho : opT d.name = n) (hn2 : n < 27) (hA : uA n = false) (hB' : uB n = false) (hK : kr n = 0) (hfs : d.fields = []) (h1 : d.words = 1) (hn : ws.length ≤ 512) (hS : SR w fo d.fields) (hNm : Nms w) (hO : w.ownsRow base 46 1 v ws.length (wds ws)) (hB : base ≤ w.heap.size) : Calls Tryd.prog 14 #[v, .slice ao ds.length cap, .agg (dlL d fo c).toArray, .int .i64 at'] w fun e w' => ∃ v', e = .returned v' ∧ w'.ownsRow base 46 1 v' (ws.length + 1) (wds ws ++ [.int .u32 (encW ⟨(n : Nat), 0, 0, 0⟩ : Nat)]) ∧ Below base w w' := by
  obtain ⟨i9, hi, hz, hsz, hb⟩ := info_w
  have HB : Hid (Below w.heap.size w (w.alloc (.cells (dlL d fo c).toArray 42))) := hide (bel1 _ _)
  have HO := hide (own_keep hO HB.out)
  have q2 := cells_new w (dlL d fo c) 42 2 _ rfl
  have q3 := cells_new w (dlL d fo c) 42 3 _ rfl
  have q4 := cells_new w (dlL d fo c) 42 4 _ rfl
  rw [addr2] at q2
  rw [addr3] at q3
  rw [addr4] at q4
  have hS1 := hS.below HB.out
  have HOp := hide (opOf_any (w.alloc (.cells (dlL d fo c).toArray 42)) d.name (hNm.below HB.out))
  have HS := hide (shape_in (w.alloc (.cells (dlL d fo c).toArray 42)) n hn2)
  rw [hA, hB', hK] at HS
  rw [ho] at HOp
  have nW : (d.name == [46, 119, 111, 114, 100]) = false := by rw [beq_eq_false_iff_ne]; exact hW
  have nZ : (d.name == [46, 122, 101, 114, 111]) = false := by rw [beq_eq_false_iff_ne]; exact hZ
  have HVv := hide (value_any (w.alloc (.cells (dlL d fo c).toArray 42)) [] (by simp))
  rw [show numT [] = none from rfl] at HVv
  have HB1 := hide (HB.out.mono hB)
  have hs1 : base ≤ (w.alloc (.cells (dlL d fo c).toArray 42)).heap.size := by simp; omega
  obtain ⟨au, cu, rfl⟩ := own_shape hO
  clear hO hS HB hNm ho hA hB' hK
  obtain ⟨label, lab, name, fields, words, bad⟩ := d
  simp only at h1 hfs nW nZ hW hZ
  subst h1; subst hfs
  clear hS1
  simp only [dlL, List.length_nil] at *
  go_enter Tryd.func14, Tryd.ntmps14
  go_wp2_with fail
  refine HVv.out.mono ?_
  rintro e w1 ⟨rfl, rfl⟩
  go_wp2_with fail
  refine HOp.out.mono ?_
  rintro e w1 ⟨rfl, rfl⟩
  go_wp2_with fail
  refine HS.out.mono ?_
  rintro e w1 ⟨rfl, rfl⟩
  go_wp2_with fail
  refine enc_step (w1 := w.alloc (.cells #[.string ⟨label.toArray⟩, .bool lab, .string ⟨name.toArray⟩, .slice fo 0 c, .int .i64 1, .bool bad] 42)) ⟨(n : Nat), 0, 0, 0⟩ ?_ ?_
  · repeat (first | exact bel1 _ _ | refine Below.setCell ?_ (by simp) _)
  intro w5 hb5
  have HO5 := hide (own_keep HO.out hb5)
  have HB5 := hide (HB1.out.trans (hb5.mono hs1))
  have hs5 : base ≤ w5.heap.size := Nat.le_trans hs1 hb5.size
  clear hb5 HO HB1 HVv HOp HS hs1
  generalize hX : encW ⟨(n : Nat), 0, 0, 0⟩ = X at *
  go_wp2_with (at_builtin; refine wpList_append_own _ rfl _ _ 22 rfl base 46 i9 (.int .u32 0) 1 4 Tryd.underlying22 hi hz hsz hb rfl (by decide) _ _ _ rfl (HO5.out.alloc _) ⟨_, 0, none⟩ 1 1 [.int .u32 (X : Nat)] rfl rfl (cell_one_new _ _ _) (by simp [Value.oneCell']) (by unfold maxLen; omega) (by omega) (by simp; omega) ?_; intro v3 w3 ho3 hg3 _; obtain ⟨a3, c3, rfl⟩ := own_shape ho3)
  go_ret
  exact ⟨_, rfl, by rw [hX]; exact ho3, (HB5.out.alloc hs5 _).grown hg3 (by simp; omega) (fun k hk => (HO5.out.lt k hk).1)⟩
set_option maxRecDepth 100000 in
set_option maxHeartbeats 4000000 in
theorem put_100r (ds : List Dl) (ao : Option Addr) (cap : Nat) (d : Dl) (fo : Option Addr) (c : Nat) (ws : List Nat) (v : Value) (base : Nat) (at' : Int) (n : Nat) (f0 : Tx) (x0 y0 : UInt8) (e0 : f0 = [x0, y0]) (hf : f0.length ≤ 16384) (hm : numT f0 = none) (hW : ¬ d.name = [46, 119, 111, 114, 100]) (hZ : ¬ d.name = [46, 122, 101, 114, 111]) (ho : opT d.name = n) (hn2 : n < 27) (hA : uA n = true) (hB' : uB n = false) (hK : kr n = 0) (hfs : d.fields = [f0]) (h1 : d.words = 1) (hn : ws.length ≤ 512) (hl : ds.length ≤ 16385) (hw : ∀ k, k ≤ ds.length → 0 ≤ ahdD ds k ∧ ahdD ds k ≤ 512 * k) (hR : DRow w ao ds) (hS : SR w fo d.fields) (hNm : Nms w) (hO : w.ownsRow base 46 1 v ws.length (wds ws)) (hB : base ≤ w.heap.size) : Calls Tryd.prog 14 #[v, .slice ao ds.length cap, .agg (dlL d fo c).toArray, .int .i64 at'] w fun e w' => ∃ v', e = .returned v' ∧ w'.ownsRow base 46 1 v' (ws.length + 1) (wds ws ++ [.int .u32 (encW ⟨(n : Nat), ((y0.toNat : Int) - 48) % 256, 0, 0⟩ : Nat)]) ∧ Below base w w' := by
  obtain ⟨i9, hi, hz, hsz, hb⟩ := info_w
  have HB : Hid (Below w.heap.size w (w.alloc (.cells (dlL d fo c).toArray 42))) := hide (bel1 _ _)
  have HO := hide (own_keep hO HB.out)
  have q2 := cells_new w (dlL d fo c) 42 2 _ rfl
  have q3 := cells_new w (dlL d fo c) 42 3 _ rfl
  have q4 := cells_new w (dlL d fo c) 42 4 _ rfl
  rw [addr2] at q2
  rw [addr3] at q3
  rw [addr4] at q4
  have hS1 := hS.below HB.out
  have HOp := hide (opOf_any (w.alloc (.cells (dlL d fo c).toArray 42)) d.name (hNm.below HB.out))
  have HS := hide (shape_in (w.alloc (.cells (dlL d fo c).toArray 42)) n hn2)
  rw [hA, hB', hK] at HS
  rw [ho] at HOp
  have nW : (d.name == [46, 119, 111, 114, 100]) = false := by rw [beq_eq_false_iff_ne]; exact hW
  have nZ : (d.name == [46, 122, 101, 114, 111]) = false := by rw [beq_eq_false_iff_ne]; exact hZ
  have HVv := hide (value_any (w.alloc (.cells (dlL d fo c).toArray 42)) f0 hf)
  rw [hm] at HVv
  have HAd := hide (address_any (w.alloc (.cells (dlL d fo c).toArray 42)) ds ao cap f0 hl hw (hR.below HB.out))
  have hab := adrD_bound hl hw f0
  have HB1 := hide (HB.out.mono hB)
  have hs1 : base ≤ (w.alloc (.cells (dlL d fo c).toArray 42)).heap.size := by simp; omega
  obtain ⟨au, cu, rfl⟩ := own_shape hO
  clear hO hS HB hNm ho hA hB' hK hm hR hw
  obtain ⟨label, lab, name, fields, words, bad⟩ := d
  simp only at h1 hfs nW nZ hW hZ
  subst h1; subst hfs
  obtain ⟨x, rfl, c0⟩ := hS1 0 (by simp)
  rw [addr0] at c0
  subst e0
  have hxl := cell_blk c0
  simp only [World.size_alloc] at hxl
  clear hS1
  simp only [dlL, List.length_cons, List.length_nil, Nat.zero_add, List.getElem_cons_zero] at *
  go_enter Tryd.func14, Tryd.ntmps14
  go_wp2_with fail
  refine HVv.out.mono ?_
  rintro e w1 ⟨rfl, rfl⟩
  go_wp2_with fail
  refine HAd.out.mono ?_
  rintro e w1 ⟨rfl, rfl⟩
  go_wp2_with fail
  refine HVv.out.mono ?_
  rintro e w1 ⟨rfl, rfl⟩
  go_wp2_with fail
  refine HOp.out.mono ?_
  rintro e w1 ⟨rfl, rfl⟩
  go_wp2_with fail
  refine HS.out.mono ?_
  rintro e w1 ⟨rfl, rfl⟩
  go_wp2_with fail
  refine enc_step (w1 := w.alloc (.cells #[.string ⟨label.toArray⟩, .bool lab, .string ⟨name.toArray⟩, .slice (some x) 1 c, .int .i64 1, .bool bad] 42)) ⟨(n : Nat), ((y0.toNat : Int) - 48) % 256, 0, 0⟩ ?_ ?_
  · repeat (first | exact bel1 _ _ | refine Below.setCell ?_ (by simp) _)
  intro w5 hb5
  have HO5 := hide (own_keep HO.out hb5)
  have HB5 := hide (HB1.out.trans (hb5.mono hs1))
  have hs5 : base ≤ w5.heap.size := Nat.le_trans hs1 hb5.size
  clear hb5 HO HB1 HVv HOp HS hs1
  generalize hX : encW ⟨(n : Nat), ((y0.toNat : Int) - 48) % 256, 0, 0⟩ = X at *
  go_wp2_with (at_builtin; refine wpList_append_own _ rfl _ _ 22 rfl base 46 i9 (.int .u32 0) 1 4 Tryd.underlying22 hi hz hsz hb rfl (by decide) _ _ _ rfl (HO5.out.alloc _) ⟨_, 0, none⟩ 1 1 [.int .u32 (X : Nat)] rfl rfl (cell_one_new _ _ _) (by simp [Value.oneCell']) (by unfold maxLen; omega) (by omega) (by simp; omega) ?_; intro v3 w3 ho3 hg3 _; obtain ⟨a3, c3, rfl⟩ := own_shape ho3)
  go_ret
  exact ⟨_, rfl, by rw [hX]; exact ho3, (HB5.out.alloc hs5 _).grown hg3 (by simp; omega) (fun k hk => (HO5.out.lt k hk).1)⟩
set_option maxRecDepth 100000 in
set_option maxHeartbeats 4000000 in
theorem put_110r (ds : List Dl) (ao : Option Addr) (cap : Nat) (d : Dl) (fo : Option Addr) (c : Nat) (ws : List Nat) (v : Value) (base : Nat) (at' : Int) (n : Nat) (f0 : Tx) (f1 : Tx) (x0 y0 : UInt8) (e0 : f0 = [x0, y0]) (x1 y1 : UInt8) (e1 : f1 = [x1, y1]) (hf : f1.length ≤ 16384) (hm : numT f1 = none) (hW : ¬ d.name = [46, 119, 111, 114, 100]) (hZ : ¬ d.name = [46, 122, 101, 114, 111]) (ho : opT d.name = n) (hn2 : n < 27) (hA : uA n = true) (hB' : uB n = true) (hK : kr n = 0) (hfs : d.fields = [f0, f1]) (h1 : d.words = 1) (hn : ws.length ≤ 512) (hl : ds.length ≤ 16385) (hw : ∀ k, k ≤ ds.length → 0 ≤ ahdD ds k ∧ ahdD ds k ≤ 512 * k) (hR : DRow w ao ds) (hS : SR w fo d.fields) (hNm : Nms w) (hO : w.ownsRow base 46 1 v ws.length (wds ws)) (hB : base ≤ w.heap.size) : Calls Tryd.prog 14 #[v, .slice ao ds.length cap, .agg (dlL d fo c).toArray, .int .i64 at'] w fun e w' => ∃ v', e = .returned v' ∧ w'.ownsRow base 46 1 v' (ws.length + 1) (wds ws ++ [.int .u32 (encW ⟨(n : Nat), ((y0.toNat : Int) - 48) % 256, ((y1.toNat : Int) - 48) % 256, 0⟩ : Nat)]) ∧ Below base w w' := by
  obtain ⟨i9, hi, hz, hsz, hb⟩ := info_w
  have HB : Hid (Below w.heap.size w (w.alloc (.cells (dlL d fo c).toArray 42))) := hide (bel1 _ _)
  have HO := hide (own_keep hO HB.out)
  have q2 := cells_new w (dlL d fo c) 42 2 _ rfl
  have q3 := cells_new w (dlL d fo c) 42 3 _ rfl
  have q4 := cells_new w (dlL d fo c) 42 4 _ rfl
  rw [addr2] at q2
  rw [addr3] at q3
  rw [addr4] at q4
  have hS1 := hS.below HB.out
  have HOp := hide (opOf_any (w.alloc (.cells (dlL d fo c).toArray 42)) d.name (hNm.below HB.out))
  have HS := hide (shape_in (w.alloc (.cells (dlL d fo c).toArray 42)) n hn2)
  rw [hA, hB', hK] at HS
  rw [ho] at HOp
  have nW : (d.name == [46, 119, 111, 114, 100]) = false := by rw [beq_eq_false_iff_ne]; exact hW
  have nZ : (d.name == [46, 122, 101, 114, 111]) = false := by rw [beq_eq_false_iff_ne]; exact hZ
  have HVv := hide (value_any (w.alloc (.cells (dlL d fo c).toArray 42)) f1 hf)
  rw [hm] at HVv
  have HAd := hide (address_any (w.alloc (.cells (dlL d fo c).toArray 42)) ds ao cap f1 hl hw (hR.below HB.out))
  have hab := adrD_bound hl hw f1
  have HB1 := hide (HB.out.mono hB)
  have hs1 : base ≤ (w.alloc (.cells (dlL d fo c).toArray 42)).heap.size := by simp; omega
  obtain ⟨au, cu, rfl⟩ := own_shape hO
  clear hO hS HB hNm ho hA hB' hK hm hR hw
  obtain ⟨label, lab, name, fields, words, bad⟩ := d
  simp only at h1 hfs nW nZ hW hZ
  subst h1; subst hfs
  obtain ⟨x, rfl, c0⟩ := hS1 0 (by simp)
  rw [addr0] at c0
  obtain ⟨x1, ex1, c1⟩ := hS1 1 (by simp)
  cases ex1
  rw [addr1] at c1
  subst e0
  subst e1
  have hxl := cell_blk c0
  simp only [World.size_alloc] at hxl
  clear hS1
  simp only [dlL, List.length_cons, List.length_nil, Nat.reduceAdd, Nat.zero_add, List.getElem_cons_zero, List.getElem_cons_succ] at *
  go_enter Tryd.func14, Tryd.ntmps14
  go_wp2_with fail
  refine HVv.out.mono ?_
  rintro e w1 ⟨rfl, rfl⟩
  go_wp2_with fail
  refine HAd.out.mono ?_
  rintro e w1 ⟨rfl, rfl⟩
  go_wp2_with fail
  refine HVv.out.mono ?_
  rintro e w1 ⟨rfl, rfl⟩
  go_wp2_with fail
  refine HOp.out.mono ?_
  rintro e w1 ⟨rfl, rfl⟩
  go_wp2_with fail
  refine HS.out.mono ?_
  rintro e w1 ⟨rfl, rfl⟩
  go_wp2_with fail
  refine enc_step (w1 := w.alloc (.cells #[.string ⟨label.toArray⟩, .bool lab, .string ⟨name.toArray⟩, .slice (some x) 2 c, .int .i64 1, .bool bad] 42)) ⟨(n : Nat), ((y0.toNat : Int) - 48) % 256, ((y1.toNat : Int) - 48) % 256, 0⟩ ?_ ?_
  · repeat (first | exact bel1 _ _ | refine Below.setCell ?_ (by simp) _)
  intro w5 hb5
  have HO5 := hide (own_keep HO.out hb5)
  have HB5 := hide (HB1.out.trans (hb5.mono hs1))
  have hs5 : base ≤ w5.heap.size := Nat.le_trans hs1 hb5.size
  clear hb5 HO HB1 HVv HOp HS hs1
  generalize hX : encW ⟨(n : Nat), ((y0.toNat : Int) - 48) % 256, ((y1.toNat : Int) - 48) % 256, 0⟩ = X at *
  go_wp2_with (at_builtin; refine wpList_append_own _ rfl _ _ 22 rfl base 46 i9 (.int .u32 0) 1 4 Tryd.underlying22 hi hz hsz hb rfl (by decide) _ _ _ rfl (HO5.out.alloc _) ⟨_, 0, none⟩ 1 1 [.int .u32 (X : Nat)] rfl rfl (cell_one_new _ _ _) (by simp [Value.oneCell']) (by unfold maxLen; omega) (by omega) (by simp; omega) ?_; intro v3 w3 ho3 hg3 _; obtain ⟨a3, c3, rfl⟩ := own_shape ho3)
  go_ret
  exact ⟨_, rfl, by rw [hX]; exact ho3, (HB5.out.alloc hs5 _).grown hg3 (by simp; omega) (fun k hk => (HO5.out.lt k hk).1)⟩
set_option maxRecDepth 100000 in
set_option maxHeartbeats 4000000 in
theorem put_001n (ds : List Dl) (ao : Option Addr) (cap : Nat) (d : Dl) (fo : Option Addr) (c : Nat) (ws : List Nat) (v : Value) (base : Nat) (at' : Int) (n : Nat) (f0 : Tx) (hf : f0.length ≤ 16384) (z : Int) (hm : numT f0 = some z) (hW : ¬ d.name = [46, 119, 111, 114, 100]) (hZ : ¬ d.name = [46, 122, 101, 114, 111]) (ho : opT d.name = n) (hn2 : n < 27) (hA : uA n = false) (hB' : uB n = false) (hK : kr n = 1) (hfs : d.fields = [f0]) (h1 : d.words = 1) (hn : ws.length ≤ 512) (hS : SR w fo d.fields) (hNm : Nms w) (hO : w.ownsRow base 46 1 v ws.length (wds ws)) (hB : base ≤ w.heap.size) : Calls Tryd.prog 14 #[v, .slice ao ds.length cap, .agg (dlL d fo c).toArray, .int .i64 at'] w fun e w' => ∃ v', e = .returned v' ∧ w'.ownsRow base 46 1 v' (ws.length + 1) (wds ws ++ [.int .u32 (encW ⟨(n : Nat), 0, 0, z⟩ : Nat)]) ∧ Below base w w' := by
  obtain ⟨i9, hi, hz, hsz, hb⟩ := info_w
  have HB : Hid (Below w.heap.size w (w.alloc (.cells (dlL d fo c).toArray 42))) := hide (bel1 _ _)
  have HO := hide (own_keep hO HB.out)
  have q2 := cells_new w (dlL d fo c) 42 2 _ rfl
  have q3 := cells_new w (dlL d fo c) 42 3 _ rfl
  have q4 := cells_new w (dlL d fo c) 42 4 _ rfl
  rw [addr2] at q2
  rw [addr3] at q3
  rw [addr4] at q4
  have hS1 := hS.below HB.out
  have HOp := hide (opOf_any (w.alloc (.cells (dlL d fo c).toArray 42)) d.name (hNm.below HB.out))
  have HS := hide (shape_in (w.alloc (.cells (dlL d fo c).toArray 42)) n hn2)
  rw [hA, hB', hK] at HS
  rw [ho] at HOp
  have nW : (d.name == [46, 119, 111, 114, 100]) = false := by rw [beq_eq_false_iff_ne]; exact hW
  have nZ : (d.name == [46, 122, 101, 114, 111]) = false := by rw [beq_eq_false_iff_ne]; exact hZ
  have HVv := hide (value_any (w.alloc (.cells (dlL d fo c).toArray 42)) f0 hf)
  rw [hm] at HVv
  have HB1 := hide (HB.out.mono hB)
  have hs1 : base ≤ (w.alloc (.cells (dlL d fo c).toArray 42)).heap.size := by simp; omega
  obtain ⟨au, cu, rfl⟩ := own_shape hO
  clear hO hS HB hNm ho hA hB' hK hm
  obtain ⟨label, lab, name, fields, words, bad⟩ := d
  simp only at h1 hfs nW nZ hW hZ
  subst h1; subst hfs
  obtain ⟨x, rfl, c0⟩ := hS1 0 (by simp)
  rw [addr0] at c0
  clear hS1
  simp only [dlL, List.length_cons, List.length_nil, Nat.zero_add, List.getElem_cons_zero] at *
  go_enter Tryd.func14, Tryd.ntmps14
  go_wp2_with fail
  refine HVv.out.mono ?_
  rintro e w1 ⟨rfl, rfl⟩
  go_wp2_with fail
  refine HVv.out.mono ?_
  rintro e w1 ⟨rfl, rfl⟩
  go_wp2_with fail
  refine HOp.out.mono ?_
  rintro e w1 ⟨rfl, rfl⟩
  go_wp2_with fail
  refine HS.out.mono ?_
  rintro e w1 ⟨rfl, rfl⟩
  go_wp2_with fail
  refine enc_step (w1 := w.alloc (.cells #[.string ⟨label.toArray⟩, .bool lab, .string ⟨name.toArray⟩, .slice (some x) 1 c, .int .i64 1, .bool bad] 42)) ⟨(n : Nat), 0, 0, z⟩ ?_ ?_
  · repeat (first | exact bel1 _ _ | refine Below.setCell ?_ (by simp) _)
  intro w5 hb5
  have HO5 := hide (own_keep HO.out hb5)
  have HB5 := hide (HB1.out.trans (hb5.mono hs1))
  have hs5 : base ≤ w5.heap.size := Nat.le_trans hs1 hb5.size
  clear hb5 HO HB1 HVv HOp HS hs1
  generalize hX : encW ⟨(n : Nat), 0, 0, z⟩ = X at *
  go_wp2_with (at_builtin; refine wpList_append_own _ rfl _ _ 22 rfl base 46 i9 (.int .u32 0) 1 4 Tryd.underlying22 hi hz hsz hb rfl (by decide) _ _ _ rfl (HO5.out.alloc _) ⟨_, 0, none⟩ 1 1 [.int .u32 (X : Nat)] rfl rfl (cell_one_new _ _ _) (by simp [Value.oneCell']) (by unfold maxLen; omega) (by omega) (by simp; omega) ?_; intro v3 w3 ho3 hg3 _; obtain ⟨a3, c3, rfl⟩ := own_shape ho3)
  go_ret
  exact ⟨_, rfl, by rw [hX]; exact ho3, (HB5.out.alloc hs5 _).grown hg3 (by simp; omega) (fun k hk => (HO5.out.lt k hk).1)⟩
set_option maxRecDepth 100000 in
set_option maxHeartbeats 4000000 in
theorem put_002n (ds : List Dl) (ao : Option Addr) (cap : Nat) (d : Dl) (fo : Option Addr) (c : Nat) (ws : List Nat) (v : Value) (base : Nat) (at' : Int) (n : Nat) (f0 : Tx) (hf : f0.length ≤ 16384) (z : Int) (hm : numT f0 = some z) (hW : ¬ d.name = [46, 119, 111, 114, 100]) (hZ : ¬ d.name = [46, 122, 101, 114, 111]) (ho : opT d.name = n) (hn2 : n < 27) (hA : uA n = false) (hB' : uB n = false) (hK : kr n = 2) (hfs : d.fields = [f0]) (h1 : d.words = 1) (hn : ws.length ≤ 512) (hS : SR w fo d.fields) (hNm : Nms w) (hO : w.ownsRow base 46 1 v ws.length (wds ws)) (hB : base ≤ w.heap.size) : Calls Tryd.prog 14 #[v, .slice ao ds.length cap, .agg (dlL d fo c).toArray, .int .i64 at'] w fun e w' => ∃ v', e = .returned v' ∧ w'.ownsRow base 46 1 v' (ws.length + 1) (wds ws ++ [.int .u32 (encW ⟨(n : Nat), 0, 0, z⟩ : Nat)]) ∧ Below base w w' := by
  obtain ⟨i9, hi, hz, hsz, hb⟩ := info_w
  have HB : Hid (Below w.heap.size w (w.alloc (.cells (dlL d fo c).toArray 42))) := hide (bel1 _ _)
  have HO := hide (own_keep hO HB.out)
  have q2 := cells_new w (dlL d fo c) 42 2 _ rfl
  have q3 := cells_new w (dlL d fo c) 42 3 _ rfl
  have q4 := cells_new w (dlL d fo c) 42 4 _ rfl
  rw [addr2] at q2
  rw [addr3] at q3
  rw [addr4] at q4
  have hS1 := hS.below HB.out
  have HOp := hide (opOf_any (w.alloc (.cells (dlL d fo c).toArray 42)) d.name (hNm.below HB.out))
  have HS := hide (shape_in (w.alloc (.cells (dlL d fo c).toArray 42)) n hn2)
  rw [hA, hB', hK] at HS
  rw [ho] at HOp
  have nW : (d.name == [46, 119, 111, 114, 100]) = false := by rw [beq_eq_false_iff_ne]; exact hW
  have nZ : (d.name == [46, 122, 101, 114, 111]) = false := by rw [beq_eq_false_iff_ne]; exact hZ
  have HVv := hide (value_any (w.alloc (.cells (dlL d fo c).toArray 42)) f0 hf)
  rw [hm] at HVv
  have HB1 := hide (HB.out.mono hB)
  have hs1 : base ≤ (w.alloc (.cells (dlL d fo c).toArray 42)).heap.size := by simp; omega
  obtain ⟨au, cu, rfl⟩ := own_shape hO
  clear hO hS HB hNm ho hA hB' hK hm
  obtain ⟨label, lab, name, fields, words, bad⟩ := d
  simp only at h1 hfs nW nZ hW hZ
  subst h1; subst hfs
  obtain ⟨x, rfl, c0⟩ := hS1 0 (by simp)
  rw [addr0] at c0
  clear hS1
  simp only [dlL, List.length_cons, List.length_nil, Nat.zero_add, List.getElem_cons_zero] at *
  go_enter Tryd.func14, Tryd.ntmps14
  go_wp2_with fail
  refine HVv.out.mono ?_
  rintro e w1 ⟨rfl, rfl⟩
  go_wp2_with fail
  refine HVv.out.mono ?_
  rintro e w1 ⟨rfl, rfl⟩
  go_wp2_with fail
  refine HOp.out.mono ?_
  rintro e w1 ⟨rfl, rfl⟩
  go_wp2_with fail
  refine HS.out.mono ?_
  rintro e w1 ⟨rfl, rfl⟩
  go_wp2_with fail
  refine enc_step (w1 := w.alloc (.cells #[.string ⟨label.toArray⟩, .bool lab, .string ⟨name.toArray⟩, .slice (some x) 1 c, .int .i64 1, .bool bad] 42)) ⟨(n : Nat), 0, 0, z⟩ ?_ ?_
  · repeat (first | exact bel1 _ _ | refine Below.setCell ?_ (by simp) _)
  intro w5 hb5
  have HO5 := hide (own_keep HO.out hb5)
  have HB5 := hide (HB1.out.trans (hb5.mono hs1))
  have hs5 : base ≤ w5.heap.size := Nat.le_trans hs1 hb5.size
  clear hb5 HO HB1 HVv HOp HS hs1
  generalize hX : encW ⟨(n : Nat), 0, 0, z⟩ = X at *
  go_wp2_with (at_builtin; refine wpList_append_own _ rfl _ _ 22 rfl base 46 i9 (.int .u32 0) 1 4 Tryd.underlying22 hi hz hsz hb rfl (by decide) _ _ _ rfl (HO5.out.alloc _) ⟨_, 0, none⟩ 1 1 [.int .u32 (X : Nat)] rfl rfl (cell_one_new _ _ _) (by simp [Value.oneCell']) (by unfold maxLen; omega) (by omega) (by simp; omega) ?_; intro v3 w3 ho3 hg3 _; obtain ⟨a3, c3, rfl⟩ := own_shape ho3)
  go_ret
  exact ⟨_, rfl, by rw [hX]; exact ho3, (HB5.out.alloc hs5 _).grown hg3 (by simp; omega) (fun k hk => (HO5.out.lt k hk).1)⟩
set_option maxRecDepth 100000 in
set_option maxHeartbeats 4000000 in
theorem put_101n (ds : List Dl) (ao : Option Addr) (cap : Nat) (d : Dl) (fo : Option Addr) (c : Nat) (ws : List Nat) (v : Value) (base : Nat) (at' : Int) (n : Nat) (f0 : Tx) (f1 : Tx) (x0 y0 : UInt8) (e0 : f0 = [x0, y0]) (hf : f1.length ≤ 16384) (z : Int) (hm : numT f1 = some z) (hW : ¬ d.name = [46, 119, 111, 114, 100]) (hZ : ¬ d.name = [46, 122, 101, 114, 111]) (ho : opT d.name = n) (hn2 : n < 27) (hA : uA n = true) (hB' : uB n = false) (hK : kr n = 1) (hfs : d.fields = [f0, f1]) (h1 : d.words = 1) (hn : ws.length ≤ 512) (hS : SR w fo d.fields) (hNm : Nms w) (hO : w.ownsRow base 46 1 v ws.length (wds ws)) (hB : base ≤ w.heap.size) : Calls Tryd.prog 14 #[v, .slice ao ds.length cap, .agg (dlL d fo c).toArray, .int .i64 at'] w fun e w' => ∃ v', e = .returned v' ∧ w'.ownsRow base 46 1 v' (ws.length + 1) (wds ws ++ [.int .u32 (encW ⟨(n : Nat), ((y0.toNat : Int) - 48) % 256, 0, z⟩ : Nat)]) ∧ Below base w w' := by
  obtain ⟨i9, hi, hz, hsz, hb⟩ := info_w
  have HB : Hid (Below w.heap.size w (w.alloc (.cells (dlL d fo c).toArray 42))) := hide (bel1 _ _)
  have HO := hide (own_keep hO HB.out)
  have q2 := cells_new w (dlL d fo c) 42 2 _ rfl
  have q3 := cells_new w (dlL d fo c) 42 3 _ rfl
  have q4 := cells_new w (dlL d fo c) 42 4 _ rfl
  rw [addr2] at q2
  rw [addr3] at q3
  rw [addr4] at q4
  have hS1 := hS.below HB.out
  have HOp := hide (opOf_any (w.alloc (.cells (dlL d fo c).toArray 42)) d.name (hNm.below HB.out))
  have HS := hide (shape_in (w.alloc (.cells (dlL d fo c).toArray 42)) n hn2)
  rw [hA, hB', hK] at HS
  rw [ho] at HOp
  have nW : (d.name == [46, 119, 111, 114, 100]) = false := by rw [beq_eq_false_iff_ne]; exact hW
  have nZ : (d.name == [46, 122, 101, 114, 111]) = false := by rw [beq_eq_false_iff_ne]; exact hZ
  have HVv := hide (value_any (w.alloc (.cells (dlL d fo c).toArray 42)) f1 hf)
  rw [hm] at HVv
  have HB1 := hide (HB.out.mono hB)
  have hs1 : base ≤ (w.alloc (.cells (dlL d fo c).toArray 42)).heap.size := by simp; omega
  obtain ⟨au, cu, rfl⟩ := own_shape hO
  clear hO hS HB hNm ho hA hB' hK hm
  obtain ⟨label, lab, name, fields, words, bad⟩ := d
  simp only at h1 hfs nW nZ hW hZ
  subst h1; subst hfs
  obtain ⟨x, rfl, c0⟩ := hS1 0 (by simp)
  rw [addr0] at c0
  obtain ⟨x1, ex1, c1⟩ := hS1 1 (by simp)
  cases ex1
  rw [addr1] at c1
  subst e0
  have hxl := cell_blk c0
  simp only [World.size_alloc] at hxl
  clear hS1
  simp only [dlL, List.length_cons, List.length_nil, Nat.reduceAdd, Nat.zero_add, List.getElem_cons_zero, List.getElem_cons_succ] at *
  go_enter Tryd.func14, Tryd.ntmps14
  go_wp2_with fail
  refine HVv.out.mono ?_
  rintro e w1 ⟨rfl, rfl⟩
  go_wp2_with fail
  refine HVv.out.mono ?_
  rintro e w1 ⟨rfl, rfl⟩
  go_wp2_with fail
  refine HOp.out.mono ?_
  rintro e w1 ⟨rfl, rfl⟩
  go_wp2_with fail
  refine HS.out.mono ?_
  rintro e w1 ⟨rfl, rfl⟩
  go_wp2_with fail
  refine enc_step (w1 := w.alloc (.cells #[.string ⟨label.toArray⟩, .bool lab, .string ⟨name.toArray⟩, .slice (some x) 2 c, .int .i64 1, .bool bad] 42)) ⟨(n : Nat), ((y0.toNat : Int) - 48) % 256, 0, z⟩ ?_ ?_
  · repeat (first | exact bel1 _ _ | refine Below.setCell ?_ (by simp) _)
  intro w5 hb5
  have HO5 := hide (own_keep HO.out hb5)
  have HB5 := hide (HB1.out.trans (hb5.mono hs1))
  have hs5 : base ≤ w5.heap.size := Nat.le_trans hs1 hb5.size
  clear hb5 HO HB1 HVv HOp HS hs1
  generalize hX : encW ⟨(n : Nat), ((y0.toNat : Int) - 48) % 256, 0, z⟩ = X at *
  go_wp2_with (at_builtin; refine wpList_append_own _ rfl _ _ 22 rfl base 46 i9 (.int .u32 0) 1 4 Tryd.underlying22 hi hz hsz hb rfl (by decide) _ _ _ rfl (HO5.out.alloc _) ⟨_, 0, none⟩ 1 1 [.int .u32 (X : Nat)] rfl rfl (cell_one_new _ _ _) (by simp [Value.oneCell']) (by unfold maxLen; omega) (by omega) (by simp; omega) ?_; intro v3 w3 ho3 hg3 _; obtain ⟨a3, c3, rfl⟩ := own_shape ho3)
  go_ret
  exact ⟨_, rfl, by rw [hX]; exact ho3, (HB5.out.alloc hs5 _).grown hg3 (by simp; omega) (fun k hk => (HO5.out.lt k hk).1)⟩
set_option maxRecDepth 100000 in
set_option maxHeartbeats 4000000 in
theorem put_102n (ds : List Dl) (ao : Option Addr) (cap : Nat) (d : Dl) (fo : Option Addr) (c : Nat) (ws : List Nat) (v : Value) (base : Nat) (at' : Int) (n : Nat) (f0 : Tx) (f1 : Tx) (x0 y0 : UInt8) (e0 : f0 = [x0, y0]) (hf : f1.length ≤ 16384) (z : Int) (hm : numT f1 = some z) (hW : ¬ d.name = [46, 119, 111, 114, 100]) (hZ : ¬ d.name = [46, 122, 101, 114, 111]) (ho : opT d.name = n) (hn2 : n < 27) (hA : uA n = true) (hB' : uB n = false) (hK : kr n = 2) (hfs : d.fields = [f0, f1]) (h1 : d.words = 1) (hn : ws.length ≤ 512) (hS : SR w fo d.fields) (hNm : Nms w) (hO : w.ownsRow base 46 1 v ws.length (wds ws)) (hB : base ≤ w.heap.size) : Calls Tryd.prog 14 #[v, .slice ao ds.length cap, .agg (dlL d fo c).toArray, .int .i64 at'] w fun e w' => ∃ v', e = .returned v' ∧ w'.ownsRow base 46 1 v' (ws.length + 1) (wds ws ++ [.int .u32 (encW ⟨(n : Nat), ((y0.toNat : Int) - 48) % 256, 0, z⟩ : Nat)]) ∧ Below base w w' := by
  obtain ⟨i9, hi, hz, hsz, hb⟩ := info_w
  have HB : Hid (Below w.heap.size w (w.alloc (.cells (dlL d fo c).toArray 42))) := hide (bel1 _ _)
  have HO := hide (own_keep hO HB.out)
  have q2 := cells_new w (dlL d fo c) 42 2 _ rfl
  have q3 := cells_new w (dlL d fo c) 42 3 _ rfl
  have q4 := cells_new w (dlL d fo c) 42 4 _ rfl
  rw [addr2] at q2
  rw [addr3] at q3
  rw [addr4] at q4
  have hS1 := hS.below HB.out
  have HOp := hide (opOf_any (w.alloc (.cells (dlL d fo c).toArray 42)) d.name (hNm.below HB.out))
  have HS := hide (shape_in (w.alloc (.cells (dlL d fo c).toArray 42)) n hn2)
  rw [hA, hB', hK] at HS
  rw [ho] at HOp
  have nW : (d.name == [46, 119, 111, 114, 100]) = false := by rw [beq_eq_false_iff_ne]; exact hW
  have nZ : (d.name == [46, 122, 101, 114, 111]) = false := by rw [beq_eq_false_iff_ne]; exact hZ
  have HVv := hide (value_any (w.alloc (.cells (dlL d fo c).toArray 42)) f1 hf)
  rw [hm] at HVv
  have HB1 := hide (HB.out.mono hB)
  have hs1 : base ≤ (w.alloc (.cells (dlL d fo c).toArray 42)).heap.size := by simp; omega
  obtain ⟨au, cu, rfl⟩ := own_shape hO
  clear hO hS HB hNm ho hA hB' hK hm
  obtain ⟨label, lab, name, fields, words, bad⟩ := d
  simp only at h1 hfs nW nZ hW hZ
  subst h1; subst hfs
  obtain ⟨x, rfl, c0⟩ := hS1 0 (by simp)
  rw [addr0] at c0
  obtain ⟨x1, ex1, c1⟩ := hS1 1 (by simp)
  cases ex1
  rw [addr1] at c1
  subst e0
  have hxl := cell_blk c0
  simp only [World.size_alloc] at hxl
  clear hS1
  simp only [dlL, List.length_cons, List.length_nil, Nat.reduceAdd, Nat.zero_add, List.getElem_cons_zero, List.getElem_cons_succ] at *
  go_enter Tryd.func14, Tryd.ntmps14
  go_wp2_with fail
  refine HVv.out.mono ?_
  rintro e w1 ⟨rfl, rfl⟩
  go_wp2_with fail
  refine HVv.out.mono ?_
  rintro e w1 ⟨rfl, rfl⟩
  go_wp2_with fail
  refine HOp.out.mono ?_
  rintro e w1 ⟨rfl, rfl⟩
  go_wp2_with fail
  refine HS.out.mono ?_
  rintro e w1 ⟨rfl, rfl⟩
  go_wp2_with fail
  refine enc_step (w1 := w.alloc (.cells #[.string ⟨label.toArray⟩, .bool lab, .string ⟨name.toArray⟩, .slice (some x) 2 c, .int .i64 1, .bool bad] 42)) ⟨(n : Nat), ((y0.toNat : Int) - 48) % 256, 0, z⟩ ?_ ?_
  · repeat (first | exact bel1 _ _ | refine Below.setCell ?_ (by simp) _)
  intro w5 hb5
  have HO5 := hide (own_keep HO.out hb5)
  have HB5 := hide (HB1.out.trans (hb5.mono hs1))
  have hs5 : base ≤ w5.heap.size := Nat.le_trans hs1 hb5.size
  clear hb5 HO HB1 HVv HOp HS hs1
  generalize hX : encW ⟨(n : Nat), ((y0.toNat : Int) - 48) % 256, 0, z⟩ = X at *
  go_wp2_with (at_builtin; refine wpList_append_own _ rfl _ _ 22 rfl base 46 i9 (.int .u32 0) 1 4 Tryd.underlying22 hi hz hsz hb rfl (by decide) _ _ _ rfl (HO5.out.alloc _) ⟨_, 0, none⟩ 1 1 [.int .u32 (X : Nat)] rfl rfl (cell_one_new _ _ _) (by simp [Value.oneCell']) (by unfold maxLen; omega) (by omega) (by simp; omega) ?_; intro v3 w3 ho3 hg3 _; obtain ⟨a3, c3, rfl⟩ := own_shape ho3)
  go_ret
  exact ⟨_, rfl, by rw [hX]; exact ho3, (HB5.out.alloc hs5 _).grown hg3 (by simp; omega) (fun k hk => (HO5.out.lt k hk).1)⟩
set_option maxRecDepth 100000 in
set_option maxHeartbeats 4000000 in
theorem put_111n (ds : List Dl) (ao : Option Addr) (cap : Nat) (d : Dl) (fo : Option Addr) (c : Nat) (ws : List Nat) (v : Value) (base : Nat) (at' : Int) (n : Nat) (f0 : Tx) (f1 : Tx) (f2 : Tx) (x0 y0 : UInt8) (e0 : f0 = [x0, y0]) (x1 y1 : UInt8) (e1 : f1 = [x1, y1]) (hf : f2.length ≤ 16384) (z : Int) (hm : numT f2 = some z) (hW : ¬ d.name = [46, 119, 111, 114, 100]) (hZ : ¬ d.name = [46, 122, 101, 114, 111]) (ho : opT d.name = n) (hn2 : n < 27) (hA : uA n = true) (hB' : uB n = true) (hK : kr n = 1) (hfs : d.fields = [f0, f1, f2]) (h1 : d.words = 1) (hn : ws.length ≤ 512) (hS : SR w fo d.fields) (hNm : Nms w) (hO : w.ownsRow base 46 1 v ws.length (wds ws)) (hB : base ≤ w.heap.size) : Calls Tryd.prog 14 #[v, .slice ao ds.length cap, .agg (dlL d fo c).toArray, .int .i64 at'] w fun e w' => ∃ v', e = .returned v' ∧ w'.ownsRow base 46 1 v' (ws.length + 1) (wds ws ++ [.int .u32 (encW ⟨(n : Nat), ((y0.toNat : Int) - 48) % 256, ((y1.toNat : Int) - 48) % 256, z⟩ : Nat)]) ∧ Below base w w' := by
  obtain ⟨i9, hi, hz, hsz, hb⟩ := info_w
  have HB : Hid (Below w.heap.size w (w.alloc (.cells (dlL d fo c).toArray 42))) := hide (bel1 _ _)
  have HO := hide (own_keep hO HB.out)
  have q2 := cells_new w (dlL d fo c) 42 2 _ rfl
  have q3 := cells_new w (dlL d fo c) 42 3 _ rfl
  have q4 := cells_new w (dlL d fo c) 42 4 _ rfl
  rw [addr2] at q2
  rw [addr3] at q3
  rw [addr4] at q4
  have hS1 := hS.below HB.out
  have HOp := hide (opOf_any (w.alloc (.cells (dlL d fo c).toArray 42)) d.name (hNm.below HB.out))
  have HS := hide (shape_in (w.alloc (.cells (dlL d fo c).toArray 42)) n hn2)
  rw [hA, hB', hK] at HS
  rw [ho] at HOp
  have nW : (d.name == [46, 119, 111, 114, 100]) = false := by rw [beq_eq_false_iff_ne]; exact hW
  have nZ : (d.name == [46, 122, 101, 114, 111]) = false := by rw [beq_eq_false_iff_ne]; exact hZ
  have HVv := hide (value_any (w.alloc (.cells (dlL d fo c).toArray 42)) f2 hf)
  rw [hm] at HVv
  have HB1 := hide (HB.out.mono hB)
  have hs1 : base ≤ (w.alloc (.cells (dlL d fo c).toArray 42)).heap.size := by simp; omega
  obtain ⟨au, cu, rfl⟩ := own_shape hO
  clear hO hS HB hNm ho hA hB' hK hm
  obtain ⟨label, lab, name, fields, words, bad⟩ := d
  simp only at h1 hfs nW nZ hW hZ
  subst h1; subst hfs
  obtain ⟨x, rfl, c0⟩ := hS1 0 (by simp)
  rw [addr0] at c0
  obtain ⟨x1, ex1, c1⟩ := hS1 1 (by simp)
  cases ex1
  rw [addr1] at c1
  obtain ⟨x2, ex2, c2⟩ := hS1 2 (by simp)
  cases ex2
  rw [addr2] at c2
  subst e0
  subst e1
  have hxl := cell_blk c0
  simp only [World.size_alloc] at hxl
  clear hS1
  simp only [dlL, List.length_cons, List.length_nil, Nat.reduceAdd, Nat.zero_add, List.getElem_cons_zero, List.getElem_cons_succ] at *
  go_enter Tryd.func14, Tryd.ntmps14
  go_wp2_with fail
  refine HVv.out.mono ?_
  rintro e w1 ⟨rfl, rfl⟩
  go_wp2_with fail
  refine HVv.out.mono ?_
  rintro e w1 ⟨rfl, rfl⟩
  go_wp2_with fail
  refine HOp.out.mono ?_
  rintro e w1 ⟨rfl, rfl⟩
  go_wp2_with fail
  refine HS.out.mono ?_
  rintro e w1 ⟨rfl, rfl⟩
  go_wp2_with fail
  refine enc_step (w1 := w.alloc (.cells #[.string ⟨label.toArray⟩, .bool lab, .string ⟨name.toArray⟩, .slice (some x) 3 c, .int .i64 1, .bool bad] 42)) ⟨(n : Nat), ((y0.toNat : Int) - 48) % 256, ((y1.toNat : Int) - 48) % 256, z⟩ ?_ ?_
  · repeat (first | exact bel1 _ _ | refine Below.setCell ?_ (by simp) _)
  intro w5 hb5
  have HO5 := hide (own_keep HO.out hb5)
  have HB5 := hide (HB1.out.trans (hb5.mono hs1))
  have hs5 : base ≤ w5.heap.size := Nat.le_trans hs1 hb5.size
  clear hb5 HO HB1 HVv HOp HS hs1
  generalize hX : encW ⟨(n : Nat), ((y0.toNat : Int) - 48) % 256, ((y1.toNat : Int) - 48) % 256, z⟩ = X at *
  go_wp2_with (at_builtin; refine wpList_append_own _ rfl _ _ 22 rfl base 46 i9 (.int .u32 0) 1 4 Tryd.underlying22 hi hz hsz hb rfl (by decide) _ _ _ rfl (HO5.out.alloc _) ⟨_, 0, none⟩ 1 1 [.int .u32 (X : Nat)] rfl rfl (cell_one_new _ _ _) (by simp [Value.oneCell']) (by unfold maxLen; omega) (by omega) (by simp; omega) ?_; intro v3 w3 ho3 hg3 _; obtain ⟨a3, c3, rfl⟩ := own_shape ho3)
  go_ret
  exact ⟨_, rfl, by rw [hX]; exact ho3, (HB5.out.alloc hs5 _).grown hg3 (by simp; omega) (fun k hk => (HO5.out.lt k hk).1)⟩
end
end Go.Proofs.YtbfagiofhakjnaaDoor

namespace Go.Proofs.YtbfagiofhakjnaaDoor
open Go.RowKit
section
variable (w : World)
set_option maxRecDepth 100000 in
set_option maxHeartbeats 4000000 in
theorem put_001ls (ds : List Dl) (ao : Option Addr) (cap : Nat) (d : Dl) (fo : Option Addr) (c : Nat) (ws : List Nat) (v : Value) (base : Nat) (at' : Int) (n : Nat) (f0 : Tx) (hf : f0.length ≤ 16384) (hm : numT f0 = none) (hrl : relN (n : Nat) = false) (hW : ¬ d.name = [46, 119, 111, 114, 100]) (hZ : ¬ d.name = [46, 122, 101, 114, 111]) (ho : opT d.name = n) (hn2 : n < 27) (hA : uA n = false) (hB' : uB n = false) (hK : kr n = 1) (hfs : d.fields = [f0]) (h1 : d.words = 1) (hn : ws.length ≤ 512) (hl : ds.length ≤ 16385) (hw : ∀ k, k ≤ ds.length → 0 ≤ ahdD ds k ∧ ahdD ds k ≤ 512 * k) (hR : DRow w ao ds) (hS : SR w fo d.fields) (hNm : Nms w) (hO : w.ownsRow base 46 1 v ws.length (wds ws)) (hB : base ≤ w.heap.size) : Calls Tryd.prog 14 #[v, .slice ao ds.length cap, .agg (dlL d fo c).toArray, .int .i64 at'] w fun e w' => ∃ v', e = .returned v' ∧ w'.ownsRow base 46 1 v' (ws.length + 1) (wds ws ++ [.int .u32 (encW ⟨(n : Nat), 0, 0, adrD ds f0⟩ : Nat)]) ∧ Below base w w' := by
  obtain ⟨i9, hi, hz, hsz, hb⟩ := info_w
  have HB : Hid (Below w.heap.size w (w.alloc (.cells (dlL d fo c).toArray 42))) := hide (bel1 _ _)
  have HO := hide (own_keep hO HB.out)
  have q2 := cells_new w (dlL d fo c) 42 2 _ rfl
  have q3 := cells_new w (dlL d fo c) 42 3 _ rfl
  have q4 := cells_new w (dlL d fo c) 42 4 _ rfl
  rw [addr2] at q2
  rw [addr3] at q3
  rw [addr4] at q4
  have hS1 := hS.below HB.out
  have HOp := hide (opOf_any (w.alloc (.cells (dlL d fo c).toArray 42)) d.name (hNm.below HB.out))
  have HS := hide (shape_in (w.alloc (.cells (dlL d fo c).toArray 42)) n hn2)
  rw [hA, hB', hK] at HS
  rw [ho] at HOp
  have nW : (d.name == [46, 119, 111, 114, 100]) = false := by rw [beq_eq_false_iff_ne]; exact hW
  have nZ : (d.name == [46, 122, 101, 114, 111]) = false := by rw [beq_eq_false_iff_ne]; exact hZ
  have HVv := hide (value_any (w.alloc (.cells (dlL d fo c).toArray 42)) f0 hf)
  rw [hm] at HVv
  have HAd := hide (address_any (w.alloc (.cells (dlL d fo c).toArray 42)) ds ao cap f0 hl hw (hR.below HB.out))
  have hab := adrD_bound hl hw f0
  have HB1 := hide (HB.out.mono hB)
  have hs1 : base ≤ (w.alloc (.cells (dlL d fo c).toArray 42)).heap.size := by simp; omega
  obtain ⟨au, cu, rfl⟩ := own_shape hO
  clear hO hS HB hNm ho hA hB' hK hm hR hw
  obtain ⟨label, lab, name, fields, words, bad⟩ := d
  simp only at h1 hfs nW nZ hW hZ
  subst h1; subst hfs
  obtain ⟨x, rfl, c0⟩ := hS1 0 (by simp)
  rw [addr0] at c0
  clear hS1
  simp only [dlL, List.length_cons, List.length_nil, Nat.zero_add, List.getElem_cons_zero] at *
  have g1 : ((n : Int) == 21) = false := by rw [beq_eq_false_iff_ne]; intro e; rw [e] at hrl; simp [relN] at hrl
  have g2 : ((n : Int) == 22) = false := by rw [beq_eq_false_iff_ne]; intro e; rw [e] at hrl; simp [relN] at hrl
  have g3 : ((n : Int) == 23) = false := by rw [beq_eq_false_iff_ne]; intro e; rw [e] at hrl; simp [relN] at hrl
  have g4 : ((n : Int) == 25) = false := by rw [beq_eq_false_iff_ne]; intro e; rw [e] at hrl; simp [relN] at hrl
  clear hrl
  go_enter Tryd.func14, Tryd.ntmps14
  go_wp2_with fail
  refine HVv.out.mono ?_
  rintro e w1 ⟨rfl, rfl⟩
  go_wp2_with fail
  refine HAd.out.mono ?_
  rintro e w1 ⟨rfl, rfl⟩
  go_wp2_with fail
  refine HVv.out.mono ?_
  rintro e w1 ⟨rfl, rfl⟩
  go_wp2_with fail
  refine HOp.out.mono ?_
  rintro e w1 ⟨rfl, rfl⟩
  go_wp2_with fail
  refine HS.out.mono ?_
  rintro e w1 ⟨rfl, rfl⟩
  go_wp2_with fail
  refine enc_step (w1 := w.alloc (.cells #[.string ⟨label.toArray⟩, .bool lab, .string ⟨name.toArray⟩, .slice (some x) 1 c, .int .i64 1, .bool bad] 42)) ⟨(n : Nat), 0, 0, adrD ds f0⟩ ?_ ?_
  · repeat (first | exact bel1 _ _ | refine Below.setCell ?_ (by simp) _)
  intro w5 hb5
  have HO5 := hide (own_keep HO.out hb5)
  have HB5 := hide (HB1.out.trans (hb5.mono hs1))
  have hs5 : base ≤ w5.heap.size := Nat.le_trans hs1 hb5.size
  clear hb5 HO HB1 HVv HOp HS hs1
  generalize hX : encW ⟨(n : Nat), 0, 0, adrD ds f0⟩ = X at *
  go_wp2_with (at_builtin; refine wpList_append_own _ rfl _ _ 22 rfl base 46 i9 (.int .u32 0) 1 4 Tryd.underlying22 hi hz hsz hb rfl (by decide) _ _ _ rfl (HO5.out.alloc _) ⟨_, 0, none⟩ 1 1 [.int .u32 (X : Nat)] rfl rfl (cell_one_new _ _ _) (by simp [Value.oneCell']) (by unfold maxLen; omega) (by omega) (by simp; omega) ?_; intro v3 w3 ho3 hg3 _; obtain ⟨a3, c3, rfl⟩ := own_shape ho3)
  go_ret
  exact ⟨_, rfl, by rw [hX]; exact ho3, (HB5.out.alloc hs5 _).grown hg3 (by simp; omega) (fun k hk => (HO5.out.lt k hk).1)⟩
set_option maxRecDepth 100000 in
set_option maxHeartbeats 4000000 in
theorem put_002ls (ds : List Dl) (ao : Option Addr) (cap : Nat) (d : Dl) (fo : Option Addr) (c : Nat) (ws : List Nat) (v : Value) (base : Nat) (at' : Int) (n : Nat) (f0 : Tx) (hf : f0.length ≤ 16384) (hm : numT f0 = none) (hrl : relN (n : Nat) = false) (hW : ¬ d.name = [46, 119, 111, 114, 100]) (hZ : ¬ d.name = [46, 122, 101, 114, 111]) (ho : opT d.name = n) (hn2 : n < 27) (hA : uA n = false) (hB' : uB n = false) (hK : kr n = 2) (hfs : d.fields = [f0]) (h1 : d.words = 1) (hn : ws.length ≤ 512) (hl : ds.length ≤ 16385) (hw : ∀ k, k ≤ ds.length → 0 ≤ ahdD ds k ∧ ahdD ds k ≤ 512 * k) (hR : DRow w ao ds) (hS : SR w fo d.fields) (hNm : Nms w) (hO : w.ownsRow base 46 1 v ws.length (wds ws)) (hB : base ≤ w.heap.size) : Calls Tryd.prog 14 #[v, .slice ao ds.length cap, .agg (dlL d fo c).toArray, .int .i64 at'] w fun e w' => ∃ v', e = .returned v' ∧ w'.ownsRow base 46 1 v' (ws.length + 1) (wds ws ++ [.int .u32 (encW ⟨(n : Nat), 0, 0, adrD ds f0⟩ : Nat)]) ∧ Below base w w' := by
  obtain ⟨i9, hi, hz, hsz, hb⟩ := info_w
  have HB : Hid (Below w.heap.size w (w.alloc (.cells (dlL d fo c).toArray 42))) := hide (bel1 _ _)
  have HO := hide (own_keep hO HB.out)
  have q2 := cells_new w (dlL d fo c) 42 2 _ rfl
  have q3 := cells_new w (dlL d fo c) 42 3 _ rfl
  have q4 := cells_new w (dlL d fo c) 42 4 _ rfl
  rw [addr2] at q2
  rw [addr3] at q3
  rw [addr4] at q4
  have hS1 := hS.below HB.out
  have HOp := hide (opOf_any (w.alloc (.cells (dlL d fo c).toArray 42)) d.name (hNm.below HB.out))
  have HS := hide (shape_in (w.alloc (.cells (dlL d fo c).toArray 42)) n hn2)
  rw [hA, hB', hK] at HS
  rw [ho] at HOp
  have nW : (d.name == [46, 119, 111, 114, 100]) = false := by rw [beq_eq_false_iff_ne]; exact hW
  have nZ : (d.name == [46, 122, 101, 114, 111]) = false := by rw [beq_eq_false_iff_ne]; exact hZ
  have HVv := hide (value_any (w.alloc (.cells (dlL d fo c).toArray 42)) f0 hf)
  rw [hm] at HVv
  have HAd := hide (address_any (w.alloc (.cells (dlL d fo c).toArray 42)) ds ao cap f0 hl hw (hR.below HB.out))
  have hab := adrD_bound hl hw f0
  have HB1 := hide (HB.out.mono hB)
  have hs1 : base ≤ (w.alloc (.cells (dlL d fo c).toArray 42)).heap.size := by simp; omega
  obtain ⟨au, cu, rfl⟩ := own_shape hO
  clear hO hS HB hNm ho hA hB' hK hm hR hw
  obtain ⟨label, lab, name, fields, words, bad⟩ := d
  simp only at h1 hfs nW nZ hW hZ
  subst h1; subst hfs
  obtain ⟨x, rfl, c0⟩ := hS1 0 (by simp)
  rw [addr0] at c0
  clear hS1
  simp only [dlL, List.length_cons, List.length_nil, Nat.zero_add, List.getElem_cons_zero] at *
  have g1 : ((n : Int) == 21) = false := by rw [beq_eq_false_iff_ne]; intro e; rw [e] at hrl; simp [relN] at hrl
  have g2 : ((n : Int) == 22) = false := by rw [beq_eq_false_iff_ne]; intro e; rw [e] at hrl; simp [relN] at hrl
  have g3 : ((n : Int) == 23) = false := by rw [beq_eq_false_iff_ne]; intro e; rw [e] at hrl; simp [relN] at hrl
  have g4 : ((n : Int) == 25) = false := by rw [beq_eq_false_iff_ne]; intro e; rw [e] at hrl; simp [relN] at hrl
  clear hrl
  go_enter Tryd.func14, Tryd.ntmps14
  go_wp2_with fail
  refine HVv.out.mono ?_
  rintro e w1 ⟨rfl, rfl⟩
  go_wp2_with fail
  refine HAd.out.mono ?_
  rintro e w1 ⟨rfl, rfl⟩
  go_wp2_with fail
  refine HVv.out.mono ?_
  rintro e w1 ⟨rfl, rfl⟩
  go_wp2_with fail
  refine HOp.out.mono ?_
  rintro e w1 ⟨rfl, rfl⟩
  go_wp2_with fail
  refine HS.out.mono ?_
  rintro e w1 ⟨rfl, rfl⟩
  go_wp2_with fail
  refine enc_step (w1 := w.alloc (.cells #[.string ⟨label.toArray⟩, .bool lab, .string ⟨name.toArray⟩, .slice (some x) 1 c, .int .i64 1, .bool bad] 42)) ⟨(n : Nat), 0, 0, adrD ds f0⟩ ?_ ?_
  · repeat (first | exact bel1 _ _ | refine Below.setCell ?_ (by simp) _)
  intro w5 hb5
  have HO5 := hide (own_keep HO.out hb5)
  have HB5 := hide (HB1.out.trans (hb5.mono hs1))
  have hs5 : base ≤ w5.heap.size := Nat.le_trans hs1 hb5.size
  clear hb5 HO HB1 HVv HOp HS hs1
  generalize hX : encW ⟨(n : Nat), 0, 0, adrD ds f0⟩ = X at *
  go_wp2_with (at_builtin; refine wpList_append_own _ rfl _ _ 22 rfl base 46 i9 (.int .u32 0) 1 4 Tryd.underlying22 hi hz hsz hb rfl (by decide) _ _ _ rfl (HO5.out.alloc _) ⟨_, 0, none⟩ 1 1 [.int .u32 (X : Nat)] rfl rfl (cell_one_new _ _ _) (by simp [Value.oneCell']) (by unfold maxLen; omega) (by omega) (by simp; omega) ?_; intro v3 w3 ho3 hg3 _; obtain ⟨a3, c3, rfl⟩ := own_shape ho3)
  go_ret
  exact ⟨_, rfl, by rw [hX]; exact ho3, (HB5.out.alloc hs5 _).grown hg3 (by simp; omega) (fun k hk => (HO5.out.lt k hk).1)⟩
set_option maxRecDepth 100000 in
set_option maxHeartbeats 4000000 in
theorem put_101ls (ds : List Dl) (ao : Option Addr) (cap : Nat) (d : Dl) (fo : Option Addr) (c : Nat) (ws : List Nat) (v : Value) (base : Nat) (at' : Int) (n : Nat) (f0 : Tx) (f1 : Tx) (x0 y0 : UInt8) (e0 : f0 = [x0, y0]) (hf : f1.length ≤ 16384) (hm : numT f1 = none) (hrl : relN (n : Nat) = false) (hW : ¬ d.name = [46, 119, 111, 114, 100]) (hZ : ¬ d.name = [46, 122, 101, 114, 111]) (ho : opT d.name = n) (hn2 : n < 27) (hA : uA n = true) (hB' : uB n = false) (hK : kr n = 1) (hfs : d.fields = [f0, f1]) (h1 : d.words = 1) (hn : ws.length ≤ 512) (hl : ds.length ≤ 16385) (hw : ∀ k, k ≤ ds.length → 0 ≤ ahdD ds k ∧ ahdD ds k ≤ 512 * k) (hR : DRow w ao ds) (hS : SR w fo d.fields) (hNm : Nms w) (hO : w.ownsRow base 46 1 v ws.length (wds ws)) (hB : base ≤ w.heap.size) : Calls Tryd.prog 14 #[v, .slice ao ds.length cap, .agg (dlL d fo c).toArray, .int .i64 at'] w fun e w' => ∃ v', e = .returned v' ∧ w'.ownsRow base 46 1 v' (ws.length + 1) (wds ws ++ [.int .u32 (encW ⟨(n : Nat), ((y0.toNat : Int) - 48) % 256, 0, adrD ds f1⟩ : Nat)]) ∧ Below base w w' := by
  obtain ⟨i9, hi, hz, hsz, hb⟩ := info_w
  have HB : Hid (Below w.heap.size w (w.alloc (.cells (dlL d fo c).toArray 42))) := hide (bel1 _ _)
  have HO := hide (own_keep hO HB.out)
  have q2 := cells_new w (dlL d fo c) 42 2 _ rfl
  have q3 := cells_new w (dlL d fo c) 42 3 _ rfl
  have q4 := cells_new w (dlL d fo c) 42 4 _ rfl
  rw [addr2] at q2
  rw [addr3] at q3
  rw [addr4] at q4
  have hS1 := hS.below HB.out
  have HOp := hide (opOf_any (w.alloc (.cells (dlL d fo c).toArray 42)) d.name (hNm.below HB.out))
  have HS := hide (shape_in (w.alloc (.cells (dlL d fo c).toArray 42)) n hn2)
  rw [hA, hB', hK] at HS
  rw [ho] at HOp
  have nW : (d.name == [46, 119, 111, 114, 100]) = false := by rw [beq_eq_false_iff_ne]; exact hW
  have nZ : (d.name == [46, 122, 101, 114, 111]) = false := by rw [beq_eq_false_iff_ne]; exact hZ
  have HVv := hide (value_any (w.alloc (.cells (dlL d fo c).toArray 42)) f1 hf)
  rw [hm] at HVv
  have HAd := hide (address_any (w.alloc (.cells (dlL d fo c).toArray 42)) ds ao cap f1 hl hw (hR.below HB.out))
  have hab := adrD_bound hl hw f1
  have HB1 := hide (HB.out.mono hB)
  have hs1 : base ≤ (w.alloc (.cells (dlL d fo c).toArray 42)).heap.size := by simp; omega
  obtain ⟨au, cu, rfl⟩ := own_shape hO
  clear hO hS HB hNm ho hA hB' hK hm hR hw
  obtain ⟨label, lab, name, fields, words, bad⟩ := d
  simp only at h1 hfs nW nZ hW hZ
  subst h1; subst hfs
  obtain ⟨x, rfl, c0⟩ := hS1 0 (by simp)
  rw [addr0] at c0
  obtain ⟨x1, ex1, c1⟩ := hS1 1 (by simp)
  cases ex1
  rw [addr1] at c1
  subst e0
  have hxl := cell_blk c0
  simp only [World.size_alloc] at hxl
  clear hS1
  simp only [dlL, List.length_cons, List.length_nil, Nat.reduceAdd, Nat.zero_add, List.getElem_cons_zero, List.getElem_cons_succ] at *
  have g1 : ((n : Int) == 21) = false := by rw [beq_eq_false_iff_ne]; intro e; rw [e] at hrl; simp [relN] at hrl
  have g2 : ((n : Int) == 22) = false := by rw [beq_eq_false_iff_ne]; intro e; rw [e] at hrl; simp [relN] at hrl
  have g3 : ((n : Int) == 23) = false := by rw [beq_eq_false_iff_ne]; intro e; rw [e] at hrl; simp [relN] at hrl
  have g4 : ((n : Int) == 25) = false := by rw [beq_eq_false_iff_ne]; intro e; rw [e] at hrl; simp [relN] at hrl
  clear hrl
  go_enter Tryd.func14, Tryd.ntmps14
  go_wp2_with fail
  refine HVv.out.mono ?_
  rintro e w1 ⟨rfl, rfl⟩
  go_wp2_with fail
  refine HAd.out.mono ?_
  rintro e w1 ⟨rfl, rfl⟩
  go_wp2_with fail
  refine HVv.out.mono ?_
  rintro e w1 ⟨rfl, rfl⟩
  go_wp2_with fail
  refine HOp.out.mono ?_
  rintro e w1 ⟨rfl, rfl⟩
  go_wp2_with fail
  refine HS.out.mono ?_
  rintro e w1 ⟨rfl, rfl⟩
  go_wp2_with fail
  refine enc_step (w1 := w.alloc (.cells #[.string ⟨label.toArray⟩, .bool lab, .string ⟨name.toArray⟩, .slice (some x) 2 c, .int .i64 1, .bool bad] 42)) ⟨(n : Nat), ((y0.toNat : Int) - 48) % 256, 0, adrD ds f1⟩ ?_ ?_
  · repeat (first | exact bel1 _ _ | refine Below.setCell ?_ (by simp) _)
  intro w5 hb5
  have HO5 := hide (own_keep HO.out hb5)
  have HB5 := hide (HB1.out.trans (hb5.mono hs1))
  have hs5 : base ≤ w5.heap.size := Nat.le_trans hs1 hb5.size
  clear hb5 HO HB1 HVv HOp HS hs1
  generalize hX : encW ⟨(n : Nat), ((y0.toNat : Int) - 48) % 256, 0, adrD ds f1⟩ = X at *
  go_wp2_with (at_builtin; refine wpList_append_own _ rfl _ _ 22 rfl base 46 i9 (.int .u32 0) 1 4 Tryd.underlying22 hi hz hsz hb rfl (by decide) _ _ _ rfl (HO5.out.alloc _) ⟨_, 0, none⟩ 1 1 [.int .u32 (X : Nat)] rfl rfl (cell_one_new _ _ _) (by simp [Value.oneCell']) (by unfold maxLen; omega) (by omega) (by simp; omega) ?_; intro v3 w3 ho3 hg3 _; obtain ⟨a3, c3, rfl⟩ := own_shape ho3)
  go_ret
  exact ⟨_, rfl, by rw [hX]; exact ho3, (HB5.out.alloc hs5 _).grown hg3 (by simp; omega) (fun k hk => (HO5.out.lt k hk).1)⟩
set_option maxRecDepth 100000 in
set_option maxHeartbeats 4000000 in
theorem put_102ls (ds : List Dl) (ao : Option Addr) (cap : Nat) (d : Dl) (fo : Option Addr) (c : Nat) (ws : List Nat) (v : Value) (base : Nat) (at' : Int) (n : Nat) (f0 : Tx) (f1 : Tx) (x0 y0 : UInt8) (e0 : f0 = [x0, y0]) (hf : f1.length ≤ 16384) (hm : numT f1 = none) (hrl : relN (n : Nat) = false) (hW : ¬ d.name = [46, 119, 111, 114, 100]) (hZ : ¬ d.name = [46, 122, 101, 114, 111]) (ho : opT d.name = n) (hn2 : n < 27) (hA : uA n = true) (hB' : uB n = false) (hK : kr n = 2) (hfs : d.fields = [f0, f1]) (h1 : d.words = 1) (hn : ws.length ≤ 512) (hl : ds.length ≤ 16385) (hw : ∀ k, k ≤ ds.length → 0 ≤ ahdD ds k ∧ ahdD ds k ≤ 512 * k) (hR : DRow w ao ds) (hS : SR w fo d.fields) (hNm : Nms w) (hO : w.ownsRow base 46 1 v ws.length (wds ws)) (hB : base ≤ w.heap.size) : Calls Tryd.prog 14 #[v, .slice ao ds.length cap, .agg (dlL d fo c).toArray, .int .i64 at'] w fun e w' => ∃ v', e = .returned v' ∧ w'.ownsRow base 46 1 v' (ws.length + 1) (wds ws ++ [.int .u32 (encW ⟨(n : Nat), ((y0.toNat : Int) - 48) % 256, 0, adrD ds f1⟩ : Nat)]) ∧ Below base w w' := by
  obtain ⟨i9, hi, hz, hsz, hb⟩ := info_w
  have HB : Hid (Below w.heap.size w (w.alloc (.cells (dlL d fo c).toArray 42))) := hide (bel1 _ _)
  have HO := hide (own_keep hO HB.out)
  have q2 := cells_new w (dlL d fo c) 42 2 _ rfl
  have q3 := cells_new w (dlL d fo c) 42 3 _ rfl
  have q4 := cells_new w (dlL d fo c) 42 4 _ rfl
  rw [addr2] at q2
  rw [addr3] at q3
  rw [addr4] at q4
  have hS1 := hS.below HB.out
  have HOp := hide (opOf_any (w.alloc (.cells (dlL d fo c).toArray 42)) d.name (hNm.below HB.out))
  have HS := hide (shape_in (w.alloc (.cells (dlL d fo c).toArray 42)) n hn2)
  rw [hA, hB', hK] at HS
  rw [ho] at HOp
  have nW : (d.name == [46, 119, 111, 114, 100]) = false := by rw [beq_eq_false_iff_ne]; exact hW
  have nZ : (d.name == [46, 122, 101, 114, 111]) = false := by rw [beq_eq_false_iff_ne]; exact hZ
  have HVv := hide (value_any (w.alloc (.cells (dlL d fo c).toArray 42)) f1 hf)
  rw [hm] at HVv
  have HAd := hide (address_any (w.alloc (.cells (dlL d fo c).toArray 42)) ds ao cap f1 hl hw (hR.below HB.out))
  have hab := adrD_bound hl hw f1
  have HB1 := hide (HB.out.mono hB)
  have hs1 : base ≤ (w.alloc (.cells (dlL d fo c).toArray 42)).heap.size := by simp; omega
  obtain ⟨au, cu, rfl⟩ := own_shape hO
  clear hO hS HB hNm ho hA hB' hK hm hR hw
  obtain ⟨label, lab, name, fields, words, bad⟩ := d
  simp only at h1 hfs nW nZ hW hZ
  subst h1; subst hfs
  obtain ⟨x, rfl, c0⟩ := hS1 0 (by simp)
  rw [addr0] at c0
  obtain ⟨x1, ex1, c1⟩ := hS1 1 (by simp)
  cases ex1
  rw [addr1] at c1
  subst e0
  have hxl := cell_blk c0
  simp only [World.size_alloc] at hxl
  clear hS1
  simp only [dlL, List.length_cons, List.length_nil, Nat.reduceAdd, Nat.zero_add, List.getElem_cons_zero, List.getElem_cons_succ] at *
  have g1 : ((n : Int) == 21) = false := by rw [beq_eq_false_iff_ne]; intro e; rw [e] at hrl; simp [relN] at hrl
  have g2 : ((n : Int) == 22) = false := by rw [beq_eq_false_iff_ne]; intro e; rw [e] at hrl; simp [relN] at hrl
  have g3 : ((n : Int) == 23) = false := by rw [beq_eq_false_iff_ne]; intro e; rw [e] at hrl; simp [relN] at hrl
  have g4 : ((n : Int) == 25) = false := by rw [beq_eq_false_iff_ne]; intro e; rw [e] at hrl; simp [relN] at hrl
  clear hrl
  go_enter Tryd.func14, Tryd.ntmps14
  go_wp2_with fail
  refine HVv.out.mono ?_
  rintro e w1 ⟨rfl, rfl⟩
  go_wp2_with fail
  refine HAd.out.mono ?_
  rintro e w1 ⟨rfl, rfl⟩
  go_wp2_with fail
  refine HVv.out.mono ?_
  rintro e w1 ⟨rfl, rfl⟩
  go_wp2_with fail
  refine HOp.out.mono ?_
  rintro e w1 ⟨rfl, rfl⟩
  go_wp2_with fail
  refine HS.out.mono ?_
  rintro e w1 ⟨rfl, rfl⟩
  go_wp2_with fail
  refine enc_step (w1 := w.alloc (.cells #[.string ⟨label.toArray⟩, .bool lab, .string ⟨name.toArray⟩, .slice (some x) 2 c, .int .i64 1, .bool bad] 42)) ⟨(n : Nat), ((y0.toNat : Int) - 48) % 256, 0, adrD ds f1⟩ ?_ ?_
  · repeat (first | exact bel1 _ _ | refine Below.setCell ?_ (by simp) _)
  intro w5 hb5
  have HO5 := hide (own_keep HO.out hb5)
  have HB5 := hide (HB1.out.trans (hb5.mono hs1))
  have hs5 : base ≤ w5.heap.size := Nat.le_trans hs1 hb5.size
  clear hb5 HO HB1 HVv HOp HS hs1
  generalize hX : encW ⟨(n : Nat), ((y0.toNat : Int) - 48) % 256, 0, adrD ds f1⟩ = X at *
  go_wp2_with (at_builtin; refine wpList_append_own _ rfl _ _ 22 rfl base 46 i9 (.int .u32 0) 1 4 Tryd.underlying22 hi hz hsz hb rfl (by decide) _ _ _ rfl (HO5.out.alloc _) ⟨_, 0, none⟩ 1 1 [.int .u32 (X : Nat)] rfl rfl (cell_one_new _ _ _) (by simp [Value.oneCell']) (by unfold maxLen; omega) (by omega) (by simp; omega) ?_; intro v3 w3 ho3 hg3 _; obtain ⟨a3, c3, rfl⟩ := own_shape ho3)
  go_ret
  exact ⟨_, rfl, by rw [hX]; exact ho3, (HB5.out.alloc hs5 _).grown hg3 (by simp; omega) (fun k hk => (HO5.out.lt k hk).1)⟩
set_option maxRecDepth 100000 in
set_option maxHeartbeats 4000000 in
theorem put_111ls (ds : List Dl) (ao : Option Addr) (cap : Nat) (d : Dl) (fo : Option Addr) (c : Nat) (ws : List Nat) (v : Value) (base : Nat) (at' : Int) (n : Nat) (f0 : Tx) (f1 : Tx) (f2 : Tx) (x0 y0 : UInt8) (e0 : f0 = [x0, y0]) (x1 y1 : UInt8) (e1 : f1 = [x1, y1]) (hf : f2.length ≤ 16384) (hm : numT f2 = none) (hrl : relN (n : Nat) = false) (hW : ¬ d.name = [46, 119, 111, 114, 100]) (hZ : ¬ d.name = [46, 122, 101, 114, 111]) (ho : opT d.name = n) (hn2 : n < 27) (hA : uA n = true) (hB' : uB n = true) (hK : kr n = 1) (hfs : d.fields = [f0, f1, f2]) (h1 : d.words = 1) (hn : ws.length ≤ 512) (hl : ds.length ≤ 16385) (hw : ∀ k, k ≤ ds.length → 0 ≤ ahdD ds k ∧ ahdD ds k ≤ 512 * k) (hR : DRow w ao ds) (hS : SR w fo d.fields) (hNm : Nms w) (hO : w.ownsRow base 46 1 v ws.length (wds ws)) (hB : base ≤ w.heap.size) : Calls Tryd.prog 14 #[v, .slice ao ds.length cap, .agg (dlL d fo c).toArray, .int .i64 at'] w fun e w' => ∃ v', e = .returned v' ∧ w'.ownsRow base 46 1 v' (ws.length + 1) (wds ws ++ [.int .u32 (encW ⟨(n : Nat), ((y0.toNat : Int) - 48) % 256, ((y1.toNat : Int) - 48) % 256, adrD ds f2⟩ : Nat)]) ∧ Below base w w' := by
  obtain ⟨i9, hi, hz, hsz, hb⟩ := info_w
  have HB : Hid (Below w.heap.size w (w.alloc (.cells (dlL d fo c).toArray 42))) := hide (bel1 _ _)
  have HO := hide (own_keep hO HB.out)
  have q2 := cells_new w (dlL d fo c) 42 2 _ rfl
  have q3 := cells_new w (dlL d fo c) 42 3 _ rfl
  have q4 := cells_new w (dlL d fo c) 42 4 _ rfl
  rw [addr2] at q2
  rw [addr3] at q3
  rw [addr4] at q4
  have hS1 := hS.below HB.out
  have HOp := hide (opOf_any (w.alloc (.cells (dlL d fo c).toArray 42)) d.name (hNm.below HB.out))
  have HS := hide (shape_in (w.alloc (.cells (dlL d fo c).toArray 42)) n hn2)
  rw [hA, hB', hK] at HS
  rw [ho] at HOp
  have nW : (d.name == [46, 119, 111, 114, 100]) = false := by rw [beq_eq_false_iff_ne]; exact hW
  have nZ : (d.name == [46, 122, 101, 114, 111]) = false := by rw [beq_eq_false_iff_ne]; exact hZ
  have HVv := hide (value_any (w.alloc (.cells (dlL d fo c).toArray 42)) f2 hf)
  rw [hm] at HVv
  have HAd := hide (address_any (w.alloc (.cells (dlL d fo c).toArray 42)) ds ao cap f2 hl hw (hR.below HB.out))
  have hab := adrD_bound hl hw f2
  have HB1 := hide (HB.out.mono hB)
  have hs1 : base ≤ (w.alloc (.cells (dlL d fo c).toArray 42)).heap.size := by simp; omega
  obtain ⟨au, cu, rfl⟩ := own_shape hO
  clear hO hS HB hNm ho hA hB' hK hm hR hw
  obtain ⟨label, lab, name, fields, words, bad⟩ := d
  simp only at h1 hfs nW nZ hW hZ
  subst h1; subst hfs
  obtain ⟨x, rfl, c0⟩ := hS1 0 (by simp)
  rw [addr0] at c0
  obtain ⟨x1, ex1, c1⟩ := hS1 1 (by simp)
  cases ex1
  rw [addr1] at c1
  obtain ⟨x2, ex2, c2⟩ := hS1 2 (by simp)
  cases ex2
  rw [addr2] at c2
  subst e0
  subst e1
  have hxl := cell_blk c0
  simp only [World.size_alloc] at hxl
  clear hS1
  simp only [dlL, List.length_cons, List.length_nil, Nat.reduceAdd, Nat.zero_add, List.getElem_cons_zero, List.getElem_cons_succ] at *
  have g1 : ((n : Int) == 21) = false := by rw [beq_eq_false_iff_ne]; intro e; rw [e] at hrl; simp [relN] at hrl
  have g2 : ((n : Int) == 22) = false := by rw [beq_eq_false_iff_ne]; intro e; rw [e] at hrl; simp [relN] at hrl
  have g3 : ((n : Int) == 23) = false := by rw [beq_eq_false_iff_ne]; intro e; rw [e] at hrl; simp [relN] at hrl
  have g4 : ((n : Int) == 25) = false := by rw [beq_eq_false_iff_ne]; intro e; rw [e] at hrl; simp [relN] at hrl
  clear hrl
  go_enter Tryd.func14, Tryd.ntmps14
  go_wp2_with fail
  refine HVv.out.mono ?_
  rintro e w1 ⟨rfl, rfl⟩
  go_wp2_with fail
  refine HAd.out.mono ?_
  rintro e w1 ⟨rfl, rfl⟩
  go_wp2_with fail
  refine HVv.out.mono ?_
  rintro e w1 ⟨rfl, rfl⟩
  go_wp2_with fail
  refine HOp.out.mono ?_
  rintro e w1 ⟨rfl, rfl⟩
  go_wp2_with fail
  refine HS.out.mono ?_
  rintro e w1 ⟨rfl, rfl⟩
  go_wp2_with fail
  refine enc_step (w1 := w.alloc (.cells #[.string ⟨label.toArray⟩, .bool lab, .string ⟨name.toArray⟩, .slice (some x) 3 c, .int .i64 1, .bool bad] 42)) ⟨(n : Nat), ((y0.toNat : Int) - 48) % 256, ((y1.toNat : Int) - 48) % 256, adrD ds f2⟩ ?_ ?_
  · repeat (first | exact bel1 _ _ | refine Below.setCell ?_ (by simp) _)
  intro w5 hb5
  have HO5 := hide (own_keep HO.out hb5)
  have HB5 := hide (HB1.out.trans (hb5.mono hs1))
  have hs5 : base ≤ w5.heap.size := Nat.le_trans hs1 hb5.size
  clear hb5 HO HB1 HVv HOp HS hs1
  generalize hX : encW ⟨(n : Nat), ((y0.toNat : Int) - 48) % 256, ((y1.toNat : Int) - 48) % 256, adrD ds f2⟩ = X at *
  go_wp2_with (at_builtin; refine wpList_append_own _ rfl _ _ 22 rfl base 46 i9 (.int .u32 0) 1 4 Tryd.underlying22 hi hz hsz hb rfl (by decide) _ _ _ rfl (HO5.out.alloc _) ⟨_, 0, none⟩ 1 1 [.int .u32 (X : Nat)] rfl rfl (cell_one_new _ _ _) (by simp [Value.oneCell']) (by unfold maxLen; omega) (by omega) (by simp; omega) ?_; intro v3 w3 ho3 hg3 _; obtain ⟨a3, c3, rfl⟩ := own_shape ho3)
  go_ret
  exact ⟨_, rfl, by rw [hX]; exact ho3, (HB5.out.alloc hs5 _).grown hg3 (by simp; omega) (fun k hk => (HO5.out.lt k hk).1)⟩
set_option maxRecDepth 100000 in
set_option maxHeartbeats 4000000 in
theorem put_001lr (ds : List Dl) (ao : Option Addr) (cap : Nat) (d : Dl) (fo : Option Addr) (c : Nat) (ws : List Nat) (v : Value) (base : Nat) (at' : Int) (n : Nat) (f0 : Tx) (hf : f0.length ≤ 16384) (hm : numT f0 = none) (hrl : relN (n : Nat) = true) (hat : 0 ≤ at' ∧ at' ≤ 512) (hW : ¬ d.name = [46, 119, 111, 114, 100]) (hZ : ¬ d.name = [46, 122, 101, 114, 111]) (ho : opT d.name = n) (hn2 : n < 27) (hA : uA n = false) (hB' : uB n = false) (hK : kr n = 1) (hfs : d.fields = [f0]) (h1 : d.words = 1) (hn : ws.length ≤ 512) (hl : ds.length ≤ 16385) (hw : ∀ k, k ≤ ds.length → 0 ≤ ahdD ds k ∧ ahdD ds k ≤ 512 * k) (hR : DRow w ao ds) (hS : SR w fo d.fields) (hNm : Nms w) (hO : w.ownsRow base 46 1 v ws.length (wds ws)) (hB : base ≤ w.heap.size) : Calls Tryd.prog 14 #[v, .slice ao ds.length cap, .agg (dlL d fo c).toArray, .int .i64 at'] w fun e w' => ∃ v', e = .returned v' ∧ w'.ownsRow base 46 1 v' (ws.length + 1) (wds ws ++ [.int .u32 (encW ⟨(n : Nat), 0, 0, adrD ds f0 - at' - 1⟩ : Nat)]) ∧ Below base w w' := by
  obtain ⟨i9, hi, hz, hsz, hb⟩ := info_w
  have HB : Hid (Below w.heap.size w (w.alloc (.cells (dlL d fo c).toArray 42))) := hide (bel1 _ _)
  have HO := hide (own_keep hO HB.out)
  have q2 := cells_new w (dlL d fo c) 42 2 _ rfl
  have q3 := cells_new w (dlL d fo c) 42 3 _ rfl
  have q4 := cells_new w (dlL d fo c) 42 4 _ rfl
  rw [addr2] at q2
  rw [addr3] at q3
  rw [addr4] at q4
  have hS1 := hS.below HB.out
  have HOp := hide (opOf_any (w.alloc (.cells (dlL d fo c).toArray 42)) d.name (hNm.below HB.out))
  have HS := hide (shape_in (w.alloc (.cells (dlL d fo c).toArray 42)) n hn2)
  rw [hA, hB', hK] at HS
  rw [ho] at HOp
  have nW : (d.name == [46, 119, 111, 114, 100]) = false := by rw [beq_eq_false_iff_ne]; exact hW
  have nZ : (d.name == [46, 122, 101, 114, 111]) = false := by rw [beq_eq_false_iff_ne]; exact hZ
  have HVv := hide (value_any (w.alloc (.cells (dlL d fo c).toArray 42)) f0 hf)
  rw [hm] at HVv
  have HAd := hide (address_any (w.alloc (.cells (dlL d fo c).toArray 42)) ds ao cap f0 hl hw (hR.below HB.out))
  have hab := adrD_bound hl hw f0
  have HB1 := hide (HB.out.mono hB)
  have hs1 : base ≤ (w.alloc (.cells (dlL d fo c).toArray 42)).heap.size := by simp; omega
  obtain ⟨au, cu, rfl⟩ := own_shape hO
  clear hO hS HB hNm ho hA hB' hK hm hR hw
  obtain ⟨label, lab, name, fields, words, bad⟩ := d
  simp only at h1 hfs nW nZ hW hZ
  subst h1; subst hfs
  obtain ⟨x, rfl, c0⟩ := hS1 0 (by simp)
  rw [addr0] at c0
  clear hS1
  simp only [dlL, List.length_cons, List.length_nil, Nat.zero_add, List.getElem_cons_zero] at *
  have hr : n = 21 ∨ n = 22 ∨ n = 23 ∨ n = 25 := by simp [relN] at hrl; omega
  clear hrl
  rcases hr with rfl | rfl | rfl | rfl
  · go_enter Tryd.func14, Tryd.ntmps14
    go_wp2_with fail
    refine HVv.out.mono ?_
    rintro e w1 ⟨rfl, rfl⟩
    go_wp2_with fail
    refine HAd.out.mono ?_
    rintro e w1 ⟨rfl, rfl⟩
    go_wp2_with fail
    refine HVv.out.mono ?_
    rintro e w1 ⟨rfl, rfl⟩
    go_wp2_with fail
    refine HOp.out.mono ?_
    rintro e w1 ⟨rfl, rfl⟩
    go_wp2_with fail
    refine HS.out.mono ?_
    rintro e w1 ⟨rfl, rfl⟩
    go_wp2_with fail
    refine enc_step (w1 := w.alloc (.cells #[.string ⟨label.toArray⟩, .bool lab, .string ⟨name.toArray⟩, .slice (some x) 1 c, .int .i64 1, .bool bad] 42)) ⟨((21 : Nat) : Int), 0, 0, adrD ds f0 - at' - 1⟩ ?_ ?_
    · repeat (first | exact bel1 _ _ | refine Below.setCell ?_ (by simp) _)
    intro w5 hb5
    have HO5 := hide (own_keep HO.out hb5)
    have HB5 := hide (HB1.out.trans (hb5.mono hs1))
    have hs5 : base ≤ w5.heap.size := Nat.le_trans hs1 hb5.size
    clear hb5 HO HB1 HVv HOp HS hs1
    generalize hX : encW ⟨((21 : Nat) : Int), 0, 0, adrD ds f0 - at' - 1⟩ = X at *
    go_wp2_with (at_builtin; refine wpList_append_own _ rfl _ _ 22 rfl base 46 i9 (.int .u32 0) 1 4 Tryd.underlying22 hi hz hsz hb rfl (by decide) _ _ _ rfl (HO5.out.alloc _) ⟨_, 0, none⟩ 1 1 [.int .u32 (X : Nat)] rfl rfl (cell_one_new _ _ _) (by simp [Value.oneCell']) (by unfold maxLen; omega) (by omega) (by simp; omega) ?_; intro v3 w3 ho3 hg3 _; obtain ⟨a3, c3, rfl⟩ := own_shape ho3)
    go_ret
    exact ⟨_, rfl, by rw [hX]; exact ho3, (HB5.out.alloc hs5 _).grown hg3 (by simp; omega) (fun k hk => (HO5.out.lt k hk).1)⟩
  · go_enter Tryd.func14, Tryd.ntmps14
    go_wp2_with fail
    refine HVv.out.mono ?_
    rintro e w1 ⟨rfl, rfl⟩
    go_wp2_with fail
    refine HAd.out.mono ?_
    rintro e w1 ⟨rfl, rfl⟩
    go_wp2_with fail
    refine HVv.out.mono ?_
    rintro e w1 ⟨rfl, rfl⟩
    go_wp2_with fail
    refine HOp.out.mono ?_
    rintro e w1 ⟨rfl, rfl⟩
    go_wp2_with fail
    refine HS.out.mono ?_
    rintro e w1 ⟨rfl, rfl⟩
    go_wp2_with fail
    refine enc_step (w1 := w.alloc (.cells #[.string ⟨label.toArray⟩, .bool lab, .string ⟨name.toArray⟩, .slice (some x) 1 c, .int .i64 1, .bool bad] 42)) ⟨((22 : Nat) : Int), 0, 0, adrD ds f0 - at' - 1⟩ ?_ ?_
    · repeat (first | exact bel1 _ _ | refine Below.setCell ?_ (by simp) _)
    intro w5 hb5
    have HO5 := hide (own_keep HO.out hb5)
    have HB5 := hide (HB1.out.trans (hb5.mono hs1))
    have hs5 : base ≤ w5.heap.size := Nat.le_trans hs1 hb5.size
    clear hb5 HO HB1 HVv HOp HS hs1
    generalize hX : encW ⟨((22 : Nat) : Int), 0, 0, adrD ds f0 - at' - 1⟩ = X at *
    go_wp2_with (at_builtin; refine wpList_append_own _ rfl _ _ 22 rfl base 46 i9 (.int .u32 0) 1 4 Tryd.underlying22 hi hz hsz hb rfl (by decide) _ _ _ rfl (HO5.out.alloc _) ⟨_, 0, none⟩ 1 1 [.int .u32 (X : Nat)] rfl rfl (cell_one_new _ _ _) (by simp [Value.oneCell']) (by unfold maxLen; omega) (by omega) (by simp; omega) ?_; intro v3 w3 ho3 hg3 _; obtain ⟨a3, c3, rfl⟩ := own_shape ho3)
    go_ret
    exact ⟨_, rfl, by rw [hX]; exact ho3, (HB5.out.alloc hs5 _).grown hg3 (by simp; omega) (fun k hk => (HO5.out.lt k hk).1)⟩
  · go_enter Tryd.func14, Tryd.ntmps14
    go_wp2_with fail
    refine HVv.out.mono ?_
    rintro e w1 ⟨rfl, rfl⟩
    go_wp2_with fail
    refine HAd.out.mono ?_
    rintro e w1 ⟨rfl, rfl⟩
    go_wp2_with fail
    refine HVv.out.mono ?_
    rintro e w1 ⟨rfl, rfl⟩
    go_wp2_with fail
    refine HOp.out.mono ?_
    rintro e w1 ⟨rfl, rfl⟩
    go_wp2_with fail
    refine HS.out.mono ?_
    rintro e w1 ⟨rfl, rfl⟩
    go_wp2_with fail
    refine enc_step (w1 := w.alloc (.cells #[.string ⟨label.toArray⟩, .bool lab, .string ⟨name.toArray⟩, .slice (some x) 1 c, .int .i64 1, .bool bad] 42)) ⟨((23 : Nat) : Int), 0, 0, adrD ds f0 - at' - 1⟩ ?_ ?_
    · repeat (first | exact bel1 _ _ | refine Below.setCell ?_ (by simp) _)
    intro w5 hb5
    have HO5 := hide (own_keep HO.out hb5)
    have HB5 := hide (HB1.out.trans (hb5.mono hs1))
    have hs5 : base ≤ w5.heap.size := Nat.le_trans hs1 hb5.size
    clear hb5 HO HB1 HVv HOp HS hs1
    generalize hX : encW ⟨((23 : Nat) : Int), 0, 0, adrD ds f0 - at' - 1⟩ = X at *
    go_wp2_with (at_builtin; refine wpList_append_own _ rfl _ _ 22 rfl base 46 i9 (.int .u32 0) 1 4 Tryd.underlying22 hi hz hsz hb rfl (by decide) _ _ _ rfl (HO5.out.alloc _) ⟨_, 0, none⟩ 1 1 [.int .u32 (X : Nat)] rfl rfl (cell_one_new _ _ _) (by simp [Value.oneCell']) (by unfold maxLen; omega) (by omega) (by simp; omega) ?_; intro v3 w3 ho3 hg3 _; obtain ⟨a3, c3, rfl⟩ := own_shape ho3)
    go_ret
    exact ⟨_, rfl, by rw [hX]; exact ho3, (HB5.out.alloc hs5 _).grown hg3 (by simp; omega) (fun k hk => (HO5.out.lt k hk).1)⟩
  · go_enter Tryd.func14, Tryd.ntmps14
    go_wp2_with fail
    refine HVv.out.mono ?_
    rintro e w1 ⟨rfl, rfl⟩
    go_wp2_with fail
    refine HAd.out.mono ?_
    rintro e w1 ⟨rfl, rfl⟩
    go_wp2_with fail
    refine HVv.out.mono ?_
    rintro e w1 ⟨rfl, rfl⟩
    go_wp2_with fail
    refine HOp.out.mono ?_
    rintro e w1 ⟨rfl, rfl⟩
    go_wp2_with fail
    refine HS.out.mono ?_
    rintro e w1 ⟨rfl, rfl⟩
    go_wp2_with fail
    refine enc_step (w1 := w.alloc (.cells #[.string ⟨label.toArray⟩, .bool lab, .string ⟨name.toArray⟩, .slice (some x) 1 c, .int .i64 1, .bool bad] 42)) ⟨((25 : Nat) : Int), 0, 0, adrD ds f0 - at' - 1⟩ ?_ ?_
    · repeat (first | exact bel1 _ _ | refine Below.setCell ?_ (by simp) _)
    intro w5 hb5
    have HO5 := hide (own_keep HO.out hb5)
    have HB5 := hide (HB1.out.trans (hb5.mono hs1))
    have hs5 : base ≤ w5.heap.size := Nat.le_trans hs1 hb5.size
    clear hb5 HO HB1 HVv HOp HS hs1
    generalize hX : encW ⟨((25 : Nat) : Int), 0, 0, adrD ds f0 - at' - 1⟩ = X at *
    go_wp2_with (at_builtin; refine wpList_append_own _ rfl _ _ 22 rfl base 46 i9 (.int .u32 0) 1 4 Tryd.underlying22 hi hz hsz hb rfl (by decide) _ _ _ rfl (HO5.out.alloc _) ⟨_, 0, none⟩ 1 1 [.int .u32 (X : Nat)] rfl rfl (cell_one_new _ _ _) (by simp [Value.oneCell']) (by unfold maxLen; omega) (by omega) (by simp; omega) ?_; intro v3 w3 ho3 hg3 _; obtain ⟨a3, c3, rfl⟩ := own_shape ho3)
    go_ret
    exact ⟨_, rfl, by rw [hX]; exact ho3, (HB5.out.alloc hs5 _).grown hg3 (by simp; omega) (fun k hk => (HO5.out.lt k hk).1)⟩
set_option maxRecDepth 100000 in
set_option maxHeartbeats 4000000 in
theorem put_101lr (ds : List Dl) (ao : Option Addr) (cap : Nat) (d : Dl) (fo : Option Addr) (c : Nat) (ws : List Nat) (v : Value) (base : Nat) (at' : Int) (n : Nat) (f0 : Tx) (f1 : Tx) (x0 y0 : UInt8) (e0 : f0 = [x0, y0]) (hf : f1.length ≤ 16384) (hm : numT f1 = none) (hrl : relN (n : Nat) = true) (hat : 0 ≤ at' ∧ at' ≤ 512) (hW : ¬ d.name = [46, 119, 111, 114, 100]) (hZ : ¬ d.name = [46, 122, 101, 114, 111]) (ho : opT d.name = n) (hn2 : n < 27) (hA : uA n = true) (hB' : uB n = false) (hK : kr n = 1) (hfs : d.fields = [f0, f1]) (h1 : d.words = 1) (hn : ws.length ≤ 512) (hl : ds.length ≤ 16385) (hw : ∀ k, k ≤ ds.length → 0 ≤ ahdD ds k ∧ ahdD ds k ≤ 512 * k) (hR : DRow w ao ds) (hS : SR w fo d.fields) (hNm : Nms w) (hO : w.ownsRow base 46 1 v ws.length (wds ws)) (hB : base ≤ w.heap.size) : Calls Tryd.prog 14 #[v, .slice ao ds.length cap, .agg (dlL d fo c).toArray, .int .i64 at'] w fun e w' => ∃ v', e = .returned v' ∧ w'.ownsRow base 46 1 v' (ws.length + 1) (wds ws ++ [.int .u32 (encW ⟨(n : Nat), ((y0.toNat : Int) - 48) % 256, 0, adrD ds f1 - at' - 1⟩ : Nat)]) ∧ Below base w w' := by
  obtain ⟨i9, hi, hz, hsz, hb⟩ := info_w
  have HB : Hid (Below w.heap.size w (w.alloc (.cells (dlL d fo c).toArray 42))) := hide (bel1 _ _)
  have HO := hide (own_keep hO HB.out)
  have q2 := cells_new w (dlL d fo c) 42 2 _ rfl
  have q3 := cells_new w (dlL d fo c) 42 3 _ rfl
  have q4 := cells_new w (dlL d fo c) 42 4 _ rfl
  rw [addr2] at q2
  rw [addr3] at q3
  rw [addr4] at q4
  have hS1 := hS.below HB.out
  have HOp := hide (opOf_any (w.alloc (.cells (dlL d fo c).toArray 42)) d.name (hNm.below HB.out))
  have HS := hide (shape_in (w.alloc (.cells (dlL d fo c).toArray 42)) n hn2)
  rw [hA, hB', hK] at HS
  rw [ho] at HOp
  have nW : (d.name == [46, 119, 111, 114, 100]) = false := by rw [beq_eq_false_iff_ne]; exact hW
  have nZ : (d.name == [46, 122, 101, 114, 111]) = false := by rw [beq_eq_false_iff_ne]; exact hZ
  have HVv := hide (value_any (w.alloc (.cells (dlL d fo c).toArray 42)) f1 hf)
  rw [hm] at HVv
  have HAd := hide (address_any (w.alloc (.cells (dlL d fo c).toArray 42)) ds ao cap f1 hl hw (hR.below HB.out))
  have hab := adrD_bound hl hw f1
  have HB1 := hide (HB.out.mono hB)
  have hs1 : base ≤ (w.alloc (.cells (dlL d fo c).toArray 42)).heap.size := by simp; omega
  obtain ⟨au, cu, rfl⟩ := own_shape hO
  clear hO hS HB hNm ho hA hB' hK hm hR hw
  obtain ⟨label, lab, name, fields, words, bad⟩ := d
  simp only at h1 hfs nW nZ hW hZ
  subst h1; subst hfs
  obtain ⟨x, rfl, c0⟩ := hS1 0 (by simp)
  rw [addr0] at c0
  obtain ⟨x1, ex1, c1⟩ := hS1 1 (by simp)
  cases ex1
  rw [addr1] at c1
  subst e0
  have hxl := cell_blk c0
  simp only [World.size_alloc] at hxl
  clear hS1
  simp only [dlL, List.length_cons, List.length_nil, Nat.reduceAdd, Nat.zero_add, List.getElem_cons_zero, List.getElem_cons_succ] at *
  have hr : n = 21 ∨ n = 22 ∨ n = 23 ∨ n = 25 := by simp [relN] at hrl; omega
  clear hrl
  rcases hr with rfl | rfl | rfl | rfl
  · go_enter Tryd.func14, Tryd.ntmps14
    go_wp2_with fail
    refine HVv.out.mono ?_
    rintro e w1 ⟨rfl, rfl⟩
    go_wp2_with fail
    refine HAd.out.mono ?_
    rintro e w1 ⟨rfl, rfl⟩
    go_wp2_with fail
    refine HVv.out.mono ?_
    rintro e w1 ⟨rfl, rfl⟩
    go_wp2_with fail
    refine HOp.out.mono ?_
    rintro e w1 ⟨rfl, rfl⟩
    go_wp2_with fail
    refine HS.out.mono ?_
    rintro e w1 ⟨rfl, rfl⟩
    go_wp2_with fail
    refine enc_step (w1 := w.alloc (.cells #[.string ⟨label.toArray⟩, .bool lab, .string ⟨name.toArray⟩, .slice (some x) 2 c, .int .i64 1, .bool bad] 42)) ⟨((21 : Nat) : Int), ((y0.toNat : Int) - 48) % 256, 0, adrD ds f1 - at' - 1⟩ ?_ ?_
    · repeat (first | exact bel1 _ _ | refine Below.setCell ?_ (by simp) _)
    intro w5 hb5
    have HO5 := hide (own_keep HO.out hb5)
    have HB5 := hide (HB1.out.trans (hb5.mono hs1))
    have hs5 : base ≤ w5.heap.size := Nat.le_trans hs1 hb5.size
    clear hb5 HO HB1 HVv HOp HS hs1
    generalize hX : encW ⟨((21 : Nat) : Int), ((y0.toNat : Int) - 48) % 256, 0, adrD ds f1 - at' - 1⟩ = X at *
    go_wp2_with (at_builtin; refine wpList_append_own _ rfl _ _ 22 rfl base 46 i9 (.int .u32 0) 1 4 Tryd.underlying22 hi hz hsz hb rfl (by decide) _ _ _ rfl (HO5.out.alloc _) ⟨_, 0, none⟩ 1 1 [.int .u32 (X : Nat)] rfl rfl (cell_one_new _ _ _) (by simp [Value.oneCell']) (by unfold maxLen; omega) (by omega) (by simp; omega) ?_; intro v3 w3 ho3 hg3 _; obtain ⟨a3, c3, rfl⟩ := own_shape ho3)
    go_ret
    exact ⟨_, rfl, by rw [hX]; exact ho3, (HB5.out.alloc hs5 _).grown hg3 (by simp; omega) (fun k hk => (HO5.out.lt k hk).1)⟩
  · go_enter Tryd.func14, Tryd.ntmps14
    go_wp2_with fail
    refine HVv.out.mono ?_
    rintro e w1 ⟨rfl, rfl⟩
    go_wp2_with fail
    refine HAd.out.mono ?_
    rintro e w1 ⟨rfl, rfl⟩
    go_wp2_with fail
    refine HVv.out.mono ?_
    rintro e w1 ⟨rfl, rfl⟩
    go_wp2_with fail
    refine HOp.out.mono ?_
    rintro e w1 ⟨rfl, rfl⟩
    go_wp2_with fail
    refine HS.out.mono ?_
    rintro e w1 ⟨rfl, rfl⟩
    go_wp2_with fail
    refine enc_step (w1 := w.alloc (.cells #[.string ⟨label.toArray⟩, .bool lab, .string ⟨name.toArray⟩, .slice (some x) 2 c, .int .i64 1, .bool bad] 42)) ⟨((22 : Nat) : Int), ((y0.toNat : Int) - 48) % 256, 0, adrD ds f1 - at' - 1⟩ ?_ ?_
    · repeat (first | exact bel1 _ _ | refine Below.setCell ?_ (by simp) _)
    intro w5 hb5
    have HO5 := hide (own_keep HO.out hb5)
    have HB5 := hide (HB1.out.trans (hb5.mono hs1))
    have hs5 : base ≤ w5.heap.size := Nat.le_trans hs1 hb5.size
    clear hb5 HO HB1 HVv HOp HS hs1
    generalize hX : encW ⟨((22 : Nat) : Int), ((y0.toNat : Int) - 48) % 256, 0, adrD ds f1 - at' - 1⟩ = X at *
    go_wp2_with (at_builtin; refine wpList_append_own _ rfl _ _ 22 rfl base 46 i9 (.int .u32 0) 1 4 Tryd.underlying22 hi hz hsz hb rfl (by decide) _ _ _ rfl (HO5.out.alloc _) ⟨_, 0, none⟩ 1 1 [.int .u32 (X : Nat)] rfl rfl (cell_one_new _ _ _) (by simp [Value.oneCell']) (by unfold maxLen; omega) (by omega) (by simp; omega) ?_; intro v3 w3 ho3 hg3 _; obtain ⟨a3, c3, rfl⟩ := own_shape ho3)
    go_ret
    exact ⟨_, rfl, by rw [hX]; exact ho3, (HB5.out.alloc hs5 _).grown hg3 (by simp; omega) (fun k hk => (HO5.out.lt k hk).1)⟩
  · go_enter Tryd.func14, Tryd.ntmps14
    go_wp2_with fail
    refine HVv.out.mono ?_
    rintro e w1 ⟨rfl, rfl⟩
    go_wp2_with fail
    refine HAd.out.mono ?_
    rintro e w1 ⟨rfl, rfl⟩
    go_wp2_with fail
    refine HVv.out.mono ?_
    rintro e w1 ⟨rfl, rfl⟩
    go_wp2_with fail
    refine HOp.out.mono ?_
    rintro e w1 ⟨rfl, rfl⟩
    go_wp2_with fail
    refine HS.out.mono ?_
    rintro e w1 ⟨rfl, rfl⟩
    go_wp2_with fail
    refine enc_step (w1 := w.alloc (.cells #[.string ⟨label.toArray⟩, .bool lab, .string ⟨name.toArray⟩, .slice (some x) 2 c, .int .i64 1, .bool bad] 42)) ⟨((23 : Nat) : Int), ((y0.toNat : Int) - 48) % 256, 0, adrD ds f1 - at' - 1⟩ ?_ ?_
    · repeat (first | exact bel1 _ _ | refine Below.setCell ?_ (by simp) _)
    intro w5 hb5
    have HO5 := hide (own_keep HO.out hb5)
    have HB5 := hide (HB1.out.trans (hb5.mono hs1))
    have hs5 : base ≤ w5.heap.size := Nat.le_trans hs1 hb5.size
    clear hb5 HO HB1 HVv HOp HS hs1
    generalize hX : encW ⟨((23 : Nat) : Int), ((y0.toNat : Int) - 48) % 256, 0, adrD ds f1 - at' - 1⟩ = X at *
    go_wp2_with (at_builtin; refine wpList_append_own _ rfl _ _ 22 rfl base 46 i9 (.int .u32 0) 1 4 Tryd.underlying22 hi hz hsz hb rfl (by decide) _ _ _ rfl (HO5.out.alloc _) ⟨_, 0, none⟩ 1 1 [.int .u32 (X : Nat)] rfl rfl (cell_one_new _ _ _) (by simp [Value.oneCell']) (by unfold maxLen; omega) (by omega) (by simp; omega) ?_; intro v3 w3 ho3 hg3 _; obtain ⟨a3, c3, rfl⟩ := own_shape ho3)
    go_ret
    exact ⟨_, rfl, by rw [hX]; exact ho3, (HB5.out.alloc hs5 _).grown hg3 (by simp; omega) (fun k hk => (HO5.out.lt k hk).1)⟩
  · go_enter Tryd.func14, Tryd.ntmps14
    go_wp2_with fail
    refine HVv.out.mono ?_
    rintro e w1 ⟨rfl, rfl⟩
    go_wp2_with fail
    refine HAd.out.mono ?_
    rintro e w1 ⟨rfl, rfl⟩
    go_wp2_with fail
    refine HVv.out.mono ?_
    rintro e w1 ⟨rfl, rfl⟩
    go_wp2_with fail
    refine HOp.out.mono ?_
    rintro e w1 ⟨rfl, rfl⟩
    go_wp2_with fail
    refine HS.out.mono ?_
    rintro e w1 ⟨rfl, rfl⟩
    go_wp2_with fail
    refine enc_step (w1 := w.alloc (.cells #[.string ⟨label.toArray⟩, .bool lab, .string ⟨name.toArray⟩, .slice (some x) 2 c, .int .i64 1, .bool bad] 42)) ⟨((25 : Nat) : Int), ((y0.toNat : Int) - 48) % 256, 0, adrD ds f1 - at' - 1⟩ ?_ ?_
    · repeat (first | exact bel1 _ _ | refine Below.setCell ?_ (by simp) _)
    intro w5 hb5
    have HO5 := hide (own_keep HO.out hb5)
    have HB5 := hide (HB1.out.trans (hb5.mono hs1))
    have hs5 : base ≤ w5.heap.size := Nat.le_trans hs1 hb5.size
    clear hb5 HO HB1 HVv HOp HS hs1
    generalize hX : encW ⟨((25 : Nat) : Int), ((y0.toNat : Int) - 48) % 256, 0, adrD ds f1 - at' - 1⟩ = X at *
    go_wp2_with (at_builtin; refine wpList_append_own _ rfl _ _ 22 rfl base 46 i9 (.int .u32 0) 1 4 Tryd.underlying22 hi hz hsz hb rfl (by decide) _ _ _ rfl (HO5.out.alloc _) ⟨_, 0, none⟩ 1 1 [.int .u32 (X : Nat)] rfl rfl (cell_one_new _ _ _) (by simp [Value.oneCell']) (by unfold maxLen; omega) (by omega) (by simp; omega) ?_; intro v3 w3 ho3 hg3 _; obtain ⟨a3, c3, rfl⟩ := own_shape ho3)
    go_ret
    exact ⟨_, rfl, by rw [hX]; exact ho3, (HB5.out.alloc hs5 _).grown hg3 (by simp; omega) (fun k hk => (HO5.out.lt k hk).1)⟩
end
end Go.Proofs.YtbfagiofhakjnaaDoor

namespace Go.Proofs.YtbfagiofhakjnaaDoor
open Go.RowKit
theorem own_apart {w : World} {base : Nat} {e : TypeId} {size : Nat} {v : Value} {n : Nat} {xs : List Value} {g : Nat} {cs : Array Value} {t : TypeId} (h : w.ownsRow base e size v n xs) (hg : w.heap[g]? = some (.cells cs t)) (hne : t ≠ e) : some g ≠ v.ownBlock := by
  rcases h.2 with ⟨h1, _⟩ | ⟨g', cap, cur, h2, h3, h4, h5⟩
  · rw [h1]; simp [Value.ownBlock]
  · intro he
    rw [h2] at he
    simp only [Value.ownBlock, Option.some.injEq] at he
    subst he
    rw [h4] at hg
    simp only [Option.some.injEq, Obj.cells.injEq] at hg
    exact hne (Eq.symm (by simpa using hg.2.symm))
theorem cells_at {w : World} {g : Nat} {cs : Array Value} {t : TypeId} (h : w.heap[g]? = some (.cells cs t)) {j : Nat} {u : Value} (hu : cs[j]? = some u) : w.cell? ⟨g, j, none⟩ = some u := by
  simp [World.cell?, h, hu]
theorem alloc_new (w : World) (o : Obj) : (w.alloc o).heap[w.heap.size]? = some o := by
  show (w.heap.push o)[w.heap.size]? = some o
  simp
section
variable (w : World)
set_option maxRecDepth 100000 in
set_option maxHeartbeats 4000000 in
theorem put_zero (ds : List Dl) (ao : Option Addr) (cap : Nat) (d : Dl) (fo : Option Addr) (c : Nat) (ws : List Nat) (v : Value) (base : Nat) (at' : Int) (f : Tx) (z : Int) (hnm : d.name = [46, 122, 101, 114, 111]) (hfs : d.fields = [f]) (hf : f.length ≤ 16384) (hm : numT f = some z) (h1 : d.words = z) (hz0 : 0 < z) (hz1 : z ≤ 512) (hn : ws.length ≤ 512) (hS : SR w fo d.fields) (hO : w.ownsRow base 46 1 v ws.length (wds ws)) (hB : base ≤ w.heap.size) : Calls Tryd.prog 14 #[v, .slice ao ds.length cap, .agg (dlL d fo c).toArray, .int .i64 at'] w fun e w' => ∃ v', e = .returned v' ∧ w'.ownsRow base 46 1 v' (ws ++ List.replicate z.toNat 0).length (wds (ws ++ List.replicate z.toNat 0)) ∧ Below base w w' := by
  obtain ⟨i9, hi, hz, hsz, hb⟩ := info_w
  have HB : Hid (Below w.heap.size w (w.alloc (.cells (dlL d fo c).toArray 42))) := hide (bel1 _ _)
  have HO := hide (own_keep hO HB.out)
  have q2 := cells_new w (dlL d fo c) 42 2 _ rfl
  have q3 := cells_new w (dlL d fo c) 42 3 _ rfl
  have q4 := cells_new w (dlL d fo c) 42 4 _ rfl
  rw [addr2] at q2
  rw [addr3] at q3
  rw [addr4] at q4
  have HT : Hid ((w.alloc (.cells (dlL d fo c).toArray 42)).heap[w.heap.size]? = some (.cells (dlL d fo c).toArray 42)) := hide (alloc_new w _)
  have hS1 := hS.below HB.out
  have HVv := hide (value_any (w.alloc (.cells (dlL d fo c).toArray 42)) f hf)
  rw [hm] at HVv
  have HB1 := hide (HB.out.mono hB)
  have hs1 : base ≤ (w.alloc (.cells (dlL d fo c).toArray 42)).heap.size := by simp; omega
  obtain ⟨au, cu, rfl⟩ := own_shape hO
  clear hO hS HB hm
  obtain ⟨label, lab, name, fields, words, bad⟩ := d
  simp only at h1 hnm hfs
  subst h1; subst hnm; subst hfs
  obtain ⟨x, rfl, c0⟩ := hS1 0 (by simp)
  rw [addr0] at c0
  clear hS1
  simp only [dlL, List.length_singleton, List.getElem_cons_zero] at *
  have hz2 : (words == 0) = false := by rw [beq_eq_false_iff_ne]; omega
  go_enter Tryd.func14, Tryd.ntmps14
  go_wp2_with fail
  refine HVv.out.mono ?_
  rintro e w1 ⟨rfl, rfl⟩
  go_wp2_with fail
  refine HVv.out.mono ?_
  rintro e w1 ⟨rfl, rfl⟩
  go_upto_region 16 with fail
  clear HVv c0 q2 q3 q4
  generalize w.alloc (.cells #[.string ⟨label.toArray⟩, .bool lab, .string ⟨#[46, 122, 101, 114, 111]⟩, .slice (some x) 1 c, .int .i64 words, .bool bad] 42) = W at *
  go_loopw [0, 15] (fun v u wr => ∃ j : Nat, u = .int .i64 (j : Int) ∧ (j : Int) ≤ words ∧ wr.ownsRow base 46 1 v (ws ++ List.replicate j 0).length (wds (ws ++ List.replicate j 0)) ∧ Below base w wr ∧ base ≤ wr.heap.size ∧ Hid (wr.heap[w.heap.size]? = some (.cells #[.string ⟨label.toArray⟩, .bool lab, .string ⟨#[46, 122, 101, 114, 111]⟩, .slice (some x) 1 c, .int .i64 words, .bool bad] 42))) (fun _ u _ => (words - intOf u).toNat)
  case atStart => exact ⟨0, rfl, by show (0 : Int) ≤ words; omega, by simpa using HO.out, HB1.out, hs1, HT⟩
  case round =>
  obtain ⟨j, rfl, hj, hOw, hBw, hsw, HTw⟩ := hrel
  obtain ⟨a2, c2, rfl⟩ := own_shape hOw
  have HOw := hide hOw
  have HBw := hide hBw
  have HAp := hide (own_apart hOw HTw.out (by decide))
  have q4 := cells_at HTw.out (show (_ : Array Value)[4]? = some (.int .i64 words) from rfl)
  have hlen : (ws ++ List.replicate j 0).length ≤ 1024 := by simp; omega
  clear hOw hBw HO HB1 HT
  by_cases hlt : (j : Int) < words
  · have HE : Hid (wds (ws ++ List.replicate (j + 1) 0) = wds (ws ++ List.replicate j 0) ++ [.int .u32 0]) := hide (by
      rw [List.replicate_succ', ← List.append_assoc]; simp [wds])
    have HE2 : Hid ((ws ++ List.replicate (j + 1) 0).length = (ws ++ List.replicate j 0).length + 1) := hide (by simp; omega)
    have hgl : w.heap.size < wr.heap.size := cell_blk q4
    generalize ws ++ List.replicate j 0 = wj at *
    go_upto_region 17 with (at_builtin; refine wpList_append_own _ rfl _ _ 22 rfl base 46 i9 (.int .u32 0) 1 4 Tryd.underlying22 hi hz hsz hb rfl (by decide) _ _ _ rfl (HOw.out.alloc _) ⟨_, 0, none⟩ 1 1 [.int .u32 0] rfl rfl (cell_one_new _ _ _) (by simp [Value.oneCell']) (by unfold maxLen; omega) (by omega) (by simp; omega) ?_; intro v3 w3 ho3 hg3 _; obtain ⟨a3, c3, rfl⟩ := own_shape ho3)
    have HO3 : Hid (w3.ownsRow base 46 1 (.slice a3 (wj.length + 1) c3) (ws ++ List.replicate (j + 1) 0).length (wds (ws ++ List.replicate (j + 1) 0))) := hide (by rw [HE.out, HE2.out]; exact ho3)
    have HB3 := hide ((HBw.out.alloc hsw _).grown hg3 (by simp; omega) (fun k hk => (HOw.out.lt k hk).1))
    have hs3 : base ≤ w3.heap.size := Nat.le_trans (by simp; omega) hg3.size
    have HT3 := hide ((hg3.block w.heap.size (by simp; omega) HAp.out).trans (((World.grownBy_alloc wr _ none).block _ hgl (by simp)).trans HTw.out))
    clear ho3 hg3 HOw HBw HAp HTw q4
    go_wp2
    refine ⟨⟨j + 1, by simp, by omega, HO3.out, HB3.out, hs3, HT3⟩, ?_⟩
    simp [intOf]
    omega
  · have ej : j = words.toNat := by omega
    have hx : ¬ (j : Int) < words := hlt
    have HV : Hid (ws ++ List.replicate words.toNat 0 = ws ++ List.replicate j 0) := hide (by rw [← ej])
    have HLn : Hid ((ws ++ List.replicate j 0).length = ws.length + words.toNat) := hide (by simp; omega)
    clear ej hlt
    generalize ws ++ List.replicate j 0 = wj at *
    go_wp2
    go_ret
    exact ⟨_, rfl, by rw [HV.out, ← HLn.out]; exact HOw.out, HBw.out⟩
end
end Go.Proofs.YtbfagiofhakjnaaDoor
