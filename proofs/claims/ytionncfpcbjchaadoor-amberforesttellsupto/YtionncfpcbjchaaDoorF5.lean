import Derived.Test.YtionncfpcbjchaaDoorH0
import Derived.Laws.BytesString
namespace Go.Proofs.YtionncfpcbjchaaDoor
open Go.RowKit
/-- a digit's sign, of base sixteen -/
def hd (k : Nat) : UInt8 := if k < 10 then UInt8.ofNat (48 + k) else UInt8.ofNat (87 + k)
def hx (Y : Tx) : Tx := Y.flatMap fun c => [hd (c.toNat / 16), hd (c.toNat % 16)]
theorem hx_len (Y : Tx) : (hx Y).length = 2 * Y.length := by
  induction Y with
  | nil => rfl
  | cons c r ih => simp only [hx, List.flatMap_cons, List.length_append, List.length_cons, List.length_nil] at ih ⊢; rw [ih]; omega
theorem hx_step {Y : Tx} {k : Nat} {c : UInt8} (hc : Y[k]? = some c) : hx (Y.take k) ++ [hd (c.toNat / 16), hd (c.toNat % 16)] = hx (Y.take (k + 1)) := by
  rw [List.take_add_one, hc]
  simp [hx]
def dgs : ByteArray := ⟨#[48, 49, 50, 51, 52, 53, 54, 55, 56, 57, 97, 98, 99, 100, 101, 102]⟩
theorem dg_at (v : Nat) (h : v < 16) (h' : v < dgs.size) : dgs[v] = hd v := by
  match v, h with
  | k + 16, h => omega
  | 0, _ => rfl
  | 1, _ => rfl
  | 2, _ => rfl
  | 3, _ => rfl
  | 4, _ => rfl
  | 5, _ => rfl
  | 6, _ => rfl
  | 7, _ => rfl
  | 8, _ => rfl
  | 9, _ => rfl
  | 10, _ => rfl
  | 11, _ => rfl
  | 12, _ => rfl
  | 13, _ => rfl
  | 14, _ => rfl
  | 15, _ => rfl
theorem fold_push : ∀ (L : List UInt8) (s : ByteArray), (L.map fun c => ((c.toNat : Nat) : Int)).foldl (fun r n => r.push (UInt8.ofNat n.toNat)) s = ⟨(s.data.toList ++ L).toArray⟩
  | [], s => by simp
  | c :: r, s => by
    simp only [List.map_cons, List.foldl_cons]
    rw [fold_push r]
    simp [ByteArray.push]
theorem str_of {w : World} {base : Nat} {v : Value} {T : Tx} (h : OwB w base v T) : (convert 50 9 v).run Tryd.prog w = .ok (.string ⟨T.toArray⟩) w := by
  have hcell : ∀ j (hj : j < T.length), ∃ g cap, v = .slice (some ⟨g, 0, none⟩) T.length cap ∧ w.cell? ⟨g, j, none⟩ = some (By T[j]) := fun j hj => h.get (by simp [hj])
  obtain ⟨_, ⟨h1, h2⟩ | ⟨g, cap, cur, h1, _⟩⟩ := h
  · have : T = [] := List.eq_nil_of_length_eq_zero h2
    subst this
    subst h1
    rw [run_convert_bytes_string w 50 9 5 _ _ _ Tryd.underlying50 Tryd.underlying5 Tryd.underlying9]
    rfl
  · subst h1
    rw [run_convert_bytes_string w 50 9 5 _ _ _ Tryd.underlying50 Tryd.underlying5 Tryd.underlying9]
    rw [run_bytesToString w ⟨g, 0, none⟩ T.length cap (T.map fun c => ((c.toNat : Nat) : Int)), fold_push]
    · simp
    · have e := run_loadCells_list (P := Tryd.prog) (w := w) ⟨g, 0, none⟩ (T.map fun c => Value.int .u8 ((c.toNat : Nat) : Int)) (fun j u hu => by
        rw [List.getElem?_map] at hu
        by_cases hj : j < T.length
        · rw [List.getElem?_eq_getElem hj] at hu
          simp at hu
          obtain ⟨g', cap', e1, e2⟩ := hcell j hj
          cases e1
          rw [add0, e2, ← hu]; rfl
        · rw [List.getElem?_eq_none (by omega)] at hu
          simp at hu)
      simpa [Function.comp_def] using e
theorem u8_and (y : Nat) (h : y < 256) : bits .and .u8 (y : Int) 15 = ((y % 16 : Nat) : Int) := by
  have := bits_mask .u8 8 (by decide) (fun n h0 h1 => by rw [IntKind.wrap_u8]; omega) 4 (by decide) (y : Int) (by omega) (by omega)
  rw [show (15 : Int) = 2 ^ 4 - 1 from rfl, this]; omega
set_option maxRecDepth 100000 in
set_option maxHeartbeats 4000000 in
theorem hex_any (w : World) (g n c : Nat) (Y : Tx) (hn : Y.length = n) (hnc : n ≤ c) (hc : ∀ (i : Nat) (u : UInt8), Y[i]? = some u → w.cell? ⟨g, i, none⟩ = some (By u)) (hl : Y.length ≤ 1000) :
    Calls Tryd.prog 28 #[.slice (some ⟨g, 0, none⟩) n c] w fun e w' => e = .returned (.string ⟨(hx Y).toArray⟩) ∧ Below w.heap.size w w' := by
  have H0 : Hid (OwB w w.heap.size (.slice none 0 0) (hx (Y.take 0)) ∧ Below w.heap.size w w) := hide ⟨by simpa [hx] using OwB.nil w w.heap.size, Below.refl _ _⟩
  have HC := hide hc
  clear hc
  go_enter Tryd.func28, Tryd.ntmps28
  go_wp2
  go_loopw [8, 3] (fun i s wr => ∃ k : Nat, k ≤ n ∧ i = .int .i64 (k : Int) ∧ Hid (OwB wr w.heap.size s (hx (Y.take k)) ∧ Below w.heap.size w wr)) (fun i _ _ => n - (intOf i).toNat)
  case atStart => exact ⟨0, by omega, rfl, H0⟩
  case round =>
    obtain ⟨k, hk, rfl, HR⟩ := hrel
    by_cases hlt : k < n
    · have hdk : decide ((k : Int) < (n : Int)) = true := by simp; omega
      obtain ⟨y, hy⟩ : ∃ y, Y[k]? = some y := ⟨Y[k], by simp⟩
      have hg : g < w.heap.size := cell_lt (HC.out k y hy)
      have hcl : wr.cell? ⟨g, k, none⟩ = some (.int .u8 (y.toNat : Int)) := by rw [HR.out.2.cell (p := ⟨g, k, none⟩) hg]; exact HC.out k y hy
      have HY := hide hy
      obtain ⟨a, m, c1, hs, hml, hmc⟩ := HR.out.1.len2
      subst hs
      have hy8 : y.toNat < 256 := y.toNat_lt
      obtain ⟨q, hq⟩ : ∃ q, q = y.toNat := ⟨_, rfl⟩
      have hyq : y = UInt8.ofNat q := by rw [hq]; simp
      obtain ⟨hi, ehi⟩ : ∃ hi, q / 16 = hi := ⟨_, rfl⟩
      obtain ⟨lo, elo⟩ : ∃ lo, q % 16 = lo := ⟨_, rfl⟩
      have hhi : hi < 16 := by omega
      have hlo : lo < 16 := by omega
      rw [← hq] at hcl hy8
      have HQ := hide hq
      have HCQ : Hid (w.cell? ⟨g, k, none⟩ = some (.int .u8 (q : Int))) := hide (by rw [hq]; exact HC.out k y hy)
      have b1 := u8_and q hy8
      rw [elo] at b1
      have b2 : (q : Int) / 16 = (hi : Int) := by omega
      have b3 : (q : Int) % 16 = (lo : Int) := by omega
      have w1 : IntKind.i64.wrap (q : Int) = q := by rw [IntKind.wrap_i64]; omega
      have w2 : IntKind.i64.wrap (hi : Int) = hi := by rw [IntKind.wrap_i64]; omega
      have w3 : IntKind.i64.wrap (lo : Int) = lo := by rw [IntKind.wrap_i64]; omega
      have b4 : (q : Int).tmod 16 = (lo : Int) := by rw [Int.tmod_eq_emod_of_nonneg (by omega)]; exact b3
      obtain ⟨ch, hch⟩ : ∃ ch, hd hi = ch := ⟨_, rfl⟩
      obtain ⟨cl, hcl'⟩ : ∃ cl, hd lo = cl := ⟨_, rfl⟩
      have d1 : ∀ h', dgs[hi]'h' = ch := fun h' => by rw [dg_at hi hhi h', hch]
      have d2 : ∀ h', dgs[lo]'h' = cl := fun h' => by rw [dg_at lo hlo h', hcl']
      have HST : Hid (hx (Y.take k) ++ [ch, cl] = hx (Y.take (k + 1))) := hide (by rw [← hx_step HY.out, ← HQ.out, ehi, elo, hch, hcl'])
      have hXl : (hx (Y.take k)).length + 2 ≤ 1000000 := by rw [hx_len, List.length_take]; omega
      clear hy hq hyq hch hcl' ehi elo
      unfold dgs at d1 d2
      go_upto_region 5 with fail
      obtain ⟨w0, hwD⟩ : ∃ wD, wD = wr.drew := ⟨_, rfl⟩
      have HO : Hid (OwB w0 w.heap.size (.slice a m c1) (hx (Y.take k))) := by rw [hwD]; exact hide (HR.out.1.up (Below.refl wr.heap.size wr).drew)
      have HB : Hid (Below w.heap.size w w0) := by rw [hwD]; exact hide (HR.out.2.drew)
      have HS0 : Hid ((fun W : World => W.cell? ⟨g, k, none⟩ = some (.int .u8 (q : Int))) w0) := by rw [hwD]; exact hide (hcl)
      have hA1 : Below w0.heap.size w0 (w0.alloc (.cells #[.int .u8 (ch.toNat : Int), .int .u8 (cl.toNat : Int)] 5)) := (Below.refl _ _).alloc (Nat.le_refl _) _
      have HS1 : Hid ((fun W : World => W.cell? ⟨g, k, none⟩ = some (.int .u8 (q : Int))) (w0.alloc (.cells #[.int .u8 (ch.toNat : Int), .int .u8 (cl.toNat : Int)] 5))) := hide ((hA1.cell (p := ⟨g, k, none⟩) (by have := HB.out.size; show g < _; omega)).trans HS0.out)
      have HA1 := hide hA1
      clear hA1
      refine wp_region_held_drew (S := fun W : World => W.cell? ⟨g, k, none⟩ = some (.int .u8 (q : Int))) (by kernel_rfl) (by rw [← hwD]; exact HS0.out) (fun hHeld => ?_)
      rw [← hwD]
      clear hwD hHeld HR
      refine hd_take 0 (o := ⟨some 12, _, _, _, _, _⟩) (.slice a m c1) (by kernel_rfl) (by kernel_rfl) (by kernel_rfl) rfl (by rfl) (fun W hSw => by go_simp) (fun _ _ _ h => h) HS0.out ?_
      simp only [Act.put, List.setIfInBounds_toArray, List.set_cons_zero, List.set_cons_succ]
      refine hd_take 1 (o := ⟨some 13, _, _, _, _, _⟩) (.int .u8 (q : Int)) (by kernel_rfl) (by kernel_rfl) (by kernel_rfl) rfl (by rfl) (fun W hSw => by go_simp) (fun _ _ _ h => h) HS0.out ?_
      simp only [Act.put, List.setIfInBounds_toArray, List.set_cons_zero, List.set_cons_succ]
      refine hd_take 2 (o := ⟨some 14, _, _, _, _, _⟩) (.int .u8 (hi : Int)) (by kernel_rfl) (by kernel_rfl) (by kernel_rfl) rfl (by rfl) (fun W hSw => by go_simp) (fun _ _ _ h => h) HS0.out ?_
      simp only [Act.put, List.setIfInBounds_toArray, List.set_cons_zero, List.set_cons_succ]
      refine hd_take 3 (o := ⟨some 15, _, _, _, _, _⟩) (.int .u8 (ch.toNat : Int)) (by kernel_rfl) (by kernel_rfl) (by kernel_rfl) rfl (by rfl) (fun W hSw => by go_simp; intro h9; omega) (fun _ _ _ h => h) HS0.out ?_
      simp only [Act.put, List.setIfInBounds_toArray, List.set_cons_zero, List.set_cons_succ]
      refine hd_take 4 (o := ⟨some 16, _, _, _, _, _⟩) (.int .u8 (q : Int)) (by kernel_rfl) (by kernel_rfl) (by kernel_rfl) rfl (by rfl) (fun W hSw => by go_simp) (fun _ _ _ h => h) HS0.out ?_
      simp only [Act.put, List.setIfInBounds_toArray, List.set_cons_zero, List.set_cons_succ]
      refine hd_take 5 (o := ⟨some 17, _, _, _, _, _⟩) (.int .u8 (lo : Int)) (by kernel_rfl) (by kernel_rfl) (by kernel_rfl) rfl (by rfl) (fun W hSw => by go_simp) (fun _ _ _ h => h) HS0.out ?_
      simp only [Act.put, List.setIfInBounds_toArray, List.set_cons_zero, List.set_cons_succ]
      refine hd_take 6 (o := ⟨some 18, _, _, _, _, _⟩) (.int .u8 (cl.toNat : Int)) (by kernel_rfl) (by kernel_rfl) (by kernel_rfl) rfl (by rfl) (fun W hSw => by go_simp; intro h9; omega) (fun _ _ _ h => h) HS0.out ?_
      simp only [Act.put, List.setIfInBounds_toArray, List.set_cons_zero, List.set_cons_succ]
      refine hd_call 7 (o := ⟨some 19, _, _, _, _, _⟩) (by kernel_rfl) rfl (by rfl) (fun K' hK => ?_)
      refine wp_row 50 5 _ Tryd.underlying50 info_b1 2 _ rfl [.int .u8 (ch.toNat : Int), .int .u8 (cl.toNat : Int)] rfl (by decide) (by decide) (by simp [Value.oneCell']) (by simp; exact ⟨rfl, rfl⟩) ?_
      refine hK _ _ HS1.out ?_
      clear hK K'
      try simp only [Act.put, List.setIfInBounds_toArray, List.set_cons_zero, List.set_cons_succ]
      refine hd_call 8 (o := ⟨some 20, _, _, _, _, _⟩) (by kernel_rfl) rfl (by rfl) (fun K' hK => ?_)
      refine wp_app_bys _ _ rfl w.heap.size _ (hx (Y.take k)) rfl (HO.out.up HA1.out) [ch, cl] w0.heap.size 2 2 rfl rfl (fun j u hu => ?_) (by simp; omega) (by have := HB.out.size; have := HA1.out.size; omega) ?_
      · rw [World.cell?_alloc_new]
        match j, hu with
        | 0, hu => simp at hu; subst hu; rfl
        | 1, hu => simp at hu; subst hu; rfl
        | k + 2, hu => simp at hu
      intro v2 w2 ho hgr
      have HO2 := hide ho
      have HB2 := hide (HB.out.trans ((HA1.out.mono HB.out.size).trans (below_grown (HO.out.up HA1.out) hgr (Nat.le_refl _) (by have := HB.out.size; have := HA1.out.size; omega))))
      have HS2 : Hid ((fun W : World => W.cell? ⟨g, k, none⟩ = some (.int .u8 (q : Int))) w2) := hide ((HB2.out.cell (p := ⟨g, k, none⟩) hg).trans HCQ.out)
      clear ho hgr
      refine hK _ _ HS2.out ?_
      clear hK K'
      try simp only [Act.put, List.setIfInBounds_toArray, List.set_cons_zero, List.set_cons_succ]
      refine hd_take 9 (o := ⟨some 3, _, _, _, _, _⟩) (v2) (by kernel_rfl) (by kernel_rfl) (by kernel_rfl) rfl (by rfl) (fun W hSw => by go_simp) (fun _ _ _ h => h) HS2.out ?_
      simp only [Act.put, List.setIfInBounds_toArray, List.set_cons_zero, List.set_cons_succ]
      refine wpAnyH_done (by kernel_rfl) ?_ _
      have HN : Hid (OwB w2 w.heap.size v2 (hx (Y.take (k + 1))) ∧ Below w.heap.size w w2) := hide ⟨by rw [← HST.out]; exact HO2.out, HB2.out⟩
      clear HO2 HB2 HS2 HS1 HA1 HS0 HO HB
      try go_wp2
      go_roundw
      case rel => exact ⟨k + 1, by omega, by go_num, HN⟩
      case measure => simp [intOf]; omega
    · have hdk : decide ((k : Int) < (n : Int)) = false := by simp; omega
      obtain rfl : k = n := by omega
      rw [List.take_of_length_le (Nat.le_of_eq hn)] at HR
      obtain ⟨a, m, c1, hs, hml, hmc⟩ := HR.out.1.len2
      subst hs
      have hst := str_of HR.out.1
      clear H0
      go_wp2
      go_ret
      exact ⟨rfl, HR.out.2⟩
set_option maxRecDepth 100000 in
set_option maxHeartbeats 4000000 in
theorem rhex_any (w : World) (g n c : Nat) (Y : Tx) (hn : Y.length = n) (hnc : n ≤ c) (hc : ∀ (i : Nat) (u : UInt8), Y[i]? = some u → w.cell? ⟨g, i, none⟩ = some (By u)) (hl : Y.length ≤ 1000) :
    Calls Tryd.prog 26 #[.slice (some ⟨g, 0, none⟩) n c] w fun e w' => e = .returned (.string ⟨(hx Y).toArray⟩) ∧ Below w.heap.size w w' := by
  have H0 : Hid (OwB w w.heap.size (.slice none 0 0) (hx (Y.take 0)) ∧ Below w.heap.size w w) := hide ⟨by simpa [hx] using OwB.nil w w.heap.size, Below.refl _ _⟩
  have HC := hide hc
  clear hc
  go_enter Tryd.func26, Tryd.ntmps26
  go_wp2
  go_loopw [5, 4] (fun i s wr => ∃ k : Nat, k ≤ n ∧ i = .int .i64 (k : Int) ∧ Hid (OwB wr w.heap.size s (hx (Y.take k)) ∧ Below w.heap.size w wr)) (fun i _ _ => n - (intOf i).toNat)
  case atStart => exact ⟨0, by omega, rfl, H0⟩
  case round =>
    obtain ⟨k, hk, rfl, HR⟩ := hrel
    by_cases hlt : k < n
    · have hdk : decide ((k : Int) < (n : Int)) = true := by simp; omega
      obtain ⟨y, hy⟩ : ∃ y, Y[k]? = some y := ⟨Y[k], by simp⟩
      have hg : g < w.heap.size := cell_lt (HC.out k y hy)
      have hcl : wr.cell? ⟨g, k, none⟩ = some (.int .u8 (y.toNat : Int)) := by rw [HR.out.2.cell (p := ⟨g, k, none⟩) hg]; exact HC.out k y hy
      have HY := hide hy
      obtain ⟨a, m, c1, hs, hml, hmc⟩ := HR.out.1.len2
      subst hs
      have hy8 : y.toNat < 256 := y.toNat_lt
      obtain ⟨q, hq⟩ : ∃ q, q = y.toNat := ⟨_, rfl⟩
      have hyq : y = UInt8.ofNat q := by rw [hq]; simp
      obtain ⟨hi, ehi⟩ : ∃ hi, q / 16 = hi := ⟨_, rfl⟩
      obtain ⟨lo, elo⟩ : ∃ lo, q % 16 = lo := ⟨_, rfl⟩
      have hhi : hi < 16 := by omega
      have hlo : lo < 16 := by omega
      rw [← hq] at hcl hy8
      have HQ := hide hq
      have HCQ : Hid (w.cell? ⟨g, k, none⟩ = some (.int .u8 (q : Int))) := hide (by rw [hq]; exact HC.out k y hy)
      have b1 := u8_and q hy8
      rw [elo] at b1
      have b2 : (q : Int) / 16 = (hi : Int) := by omega
      have b3 : (q : Int) % 16 = (lo : Int) := by omega
      have w1 : IntKind.i64.wrap (q : Int) = q := by rw [IntKind.wrap_i64]; omega
      have w2 : IntKind.i64.wrap (hi : Int) = hi := by rw [IntKind.wrap_i64]; omega
      have w3 : IntKind.i64.wrap (lo : Int) = lo := by rw [IntKind.wrap_i64]; omega
      have b4 : (q : Int).tmod 16 = (lo : Int) := by rw [Int.tmod_eq_emod_of_nonneg (by omega)]; exact b3
      obtain ⟨ch, hch⟩ : ∃ ch, hd hi = ch := ⟨_, rfl⟩
      obtain ⟨cl, hcl'⟩ : ∃ cl, hd lo = cl := ⟨_, rfl⟩
      have d1 : ∀ h', dgs[hi]'h' = ch := fun h' => by rw [dg_at hi hhi h', hch]
      have d2 : ∀ h', dgs[lo]'h' = cl := fun h' => by rw [dg_at lo hlo h', hcl']
      have HST : Hid (hx (Y.take k) ++ [ch, cl] = hx (Y.take (k + 1))) := hide (by rw [← hx_step HY.out, ← HQ.out, ehi, elo, hch, hcl'])
      have hXl : (hx (Y.take k)).length + 2 ≤ 1000000 := by rw [hx_len, List.length_take]; omega
      clear hy hq hyq hch hcl' ehi elo
      unfold dgs at d1 d2
      go_upto_region 6 with fail
      obtain ⟨w0, hwD⟩ : ∃ wD, wD = wr.drew := ⟨_, rfl⟩
      have HO : Hid (OwB w0 w.heap.size (.slice a m c1) (hx (Y.take k))) := by rw [hwD]; exact hide (HR.out.1.up (Below.refl wr.heap.size wr).drew)
      have HB : Hid (Below w.heap.size w w0) := by rw [hwD]; exact hide (HR.out.2.drew)
      have HS0 : Hid ((fun W : World => W.cell? ⟨g, k, none⟩ = some (.int .u8 (q : Int))) w0) := by rw [hwD]; exact hide (hcl)
      have hA1 : Below w0.heap.size w0 (w0.alloc (.cells #[.int .u8 (ch.toNat : Int), .int .u8 (cl.toNat : Int)] 5)) := (Below.refl _ _).alloc (Nat.le_refl _) _
      have HS1 : Hid ((fun W : World => W.cell? ⟨g, k, none⟩ = some (.int .u8 (q : Int))) (w0.alloc (.cells #[.int .u8 (ch.toNat : Int), .int .u8 (cl.toNat : Int)] 5))) := hide ((hA1.cell (p := ⟨g, k, none⟩) (by have := HB.out.size; show g < _; omega)).trans HS0.out)
      have HA1 := hide hA1
      clear hA1
      refine wp_region_held_drew (S := fun W : World => W.cell? ⟨g, k, none⟩ = some (.int .u8 (q : Int))) (by kernel_rfl) (by rw [← hwD]; exact HS0.out) (fun hHeld => ?_)
      rw [← hwD]
      clear hwD hHeld HR
      refine hd_take 0 (o := ⟨some 12, _, _, _, _, _⟩) (.slice a m c1) (by kernel_rfl) (by kernel_rfl) (by kernel_rfl) rfl (by rfl) (fun W hSw => by go_simp) (fun _ _ _ h => h) HS0.out ?_
      simp only [Act.put, List.setIfInBounds_toArray, List.set_cons_zero, List.set_cons_succ]
      refine hd_take 1 (o := ⟨some 13, _, _, _, _, _⟩) (.string ⟨#[48, 49, 50, 51, 52, 53, 54, 55, 56, 57, 97, 98, 99, 100, 101, 102]⟩) (by kernel_rfl) (by kernel_rfl) (by kernel_rfl) rfl (by rfl) (fun W hSw => by go_simp) (fun _ _ _ h => h) HS0.out ?_
      simp only [Act.put, List.setIfInBounds_toArray, List.set_cons_zero, List.set_cons_succ]
      refine hd_take 2 (o := ⟨some 14, _, _, _, _, _⟩) (.slice (some ⟨g, 0, none⟩) n c) (by kernel_rfl) (by kernel_rfl) (by kernel_rfl) rfl (by rfl) (fun W hSw => by go_simp) (fun _ _ _ h => h) HS0.out ?_
      simp only [Act.put, List.setIfInBounds_toArray, List.set_cons_zero, List.set_cons_succ]
      refine hd_take 3 (o := ⟨some 15, _, _, _, _, _⟩) (.int .i64 (k : Int)) (by kernel_rfl) (by kernel_rfl) (by kernel_rfl) rfl (by rfl) (fun W hSw => by go_simp) (fun _ _ _ h => h) HS0.out ?_
      simp only [Act.put, List.setIfInBounds_toArray, List.set_cons_zero, List.set_cons_succ]
      refine hd_take 4 (o := ⟨some 16, _, _, _, _, _⟩) (.pointer (some ⟨g, k, none⟩)) (by kernel_rfl) (by kernel_rfl) (by kernel_rfl) rfl (by rfl) (fun W hSw => by go_simp) (fun _ _ _ h => h) HS0.out ?_
      simp only [Act.put, List.setIfInBounds_toArray, List.set_cons_zero, List.set_cons_succ]
      refine hd_take 5 (o := ⟨some 17, _, _, _, _, _⟩) (.int .u8 (q : Int)) (by kernel_rfl) (by kernel_rfl) (by kernel_rfl) rfl (by rfl) (fun W hSw => by have hSw : W.cell? ⟨g, k, none⟩ = some (.int .u8 (q : Int)) := hSw; go_simp) (fun _ _ _ h => h) HS0.out ?_
      simp only [Act.put, List.setIfInBounds_toArray, List.set_cons_zero, List.set_cons_succ]
      refine hd_take 6 (o := ⟨some 18, _, _, _, _, _⟩) (.int .i64 (q : Int)) (by kernel_rfl) (by kernel_rfl) (by kernel_rfl) rfl (by rfl) (fun W hSw => by go_simp) (fun _ _ _ h => h) HS0.out ?_
      simp only [Act.put, List.setIfInBounds_toArray, List.set_cons_zero, List.set_cons_succ]
      refine hd_take 7 (o := ⟨some 19, _, _, _, _, _⟩) (.int .i64 (hi : Int)) (by kernel_rfl) (by kernel_rfl) (by kernel_rfl) rfl (by rfl) (fun W hSw => by go_simp) (fun _ _ _ h => h) HS0.out ?_
      simp only [Act.put, List.setIfInBounds_toArray, List.set_cons_zero, List.set_cons_succ]
      refine hd_take 8 (o := ⟨some 20, _, _, _, _, _⟩) (.int .u8 (ch.toNat : Int)) (by kernel_rfl) (by kernel_rfl) (by kernel_rfl) rfl (by rfl) (fun W hSw => by go_simp; intro h9; omega) (fun _ _ _ h => h) HS0.out ?_
      simp only [Act.put, List.setIfInBounds_toArray, List.set_cons_zero, List.set_cons_succ]
      refine hd_take 9 (o := ⟨some 21, _, _, _, _, _⟩) (.string ⟨#[48, 49, 50, 51, 52, 53, 54, 55, 56, 57, 97, 98, 99, 100, 101, 102]⟩) (by kernel_rfl) (by kernel_rfl) (by kernel_rfl) rfl (by rfl) (fun W hSw => by go_simp) (fun _ _ _ h => h) HS0.out ?_
      simp only [Act.put, List.setIfInBounds_toArray, List.set_cons_zero, List.set_cons_succ]
      refine hd_take 10 (o := ⟨some 22, _, _, _, _, _⟩) (.slice (some ⟨g, 0, none⟩) n c) (by kernel_rfl) (by kernel_rfl) (by kernel_rfl) rfl (by rfl) (fun W hSw => by go_simp) (fun _ _ _ h => h) HS0.out ?_
      simp only [Act.put, List.setIfInBounds_toArray, List.set_cons_zero, List.set_cons_succ]
      refine hd_take 11 (o := ⟨some 23, _, _, _, _, _⟩) (.int .i64 (k : Int)) (by kernel_rfl) (by kernel_rfl) (by kernel_rfl) rfl (by rfl) (fun W hSw => by go_simp) (fun _ _ _ h => h) HS0.out ?_
      simp only [Act.put, List.setIfInBounds_toArray, List.set_cons_zero, List.set_cons_succ]
      refine hd_take 12 (o := ⟨some 24, _, _, _, _, _⟩) (.pointer (some ⟨g, k, none⟩)) (by kernel_rfl) (by kernel_rfl) (by kernel_rfl) rfl (by rfl) (fun W hSw => by go_simp) (fun _ _ _ h => h) HS0.out ?_
      simp only [Act.put, List.setIfInBounds_toArray, List.set_cons_zero, List.set_cons_succ]
      refine hd_take 13 (o := ⟨some 25, _, _, _, _, _⟩) (.int .u8 (q : Int)) (by kernel_rfl) (by kernel_rfl) (by kernel_rfl) rfl (by rfl) (fun W hSw => by have hSw : W.cell? ⟨g, k, none⟩ = some (.int .u8 (q : Int)) := hSw; go_simp) (fun _ _ _ h => h) HS0.out ?_
      simp only [Act.put, List.setIfInBounds_toArray, List.set_cons_zero, List.set_cons_succ]
      refine hd_take 14 (o := ⟨some 26, _, _, _, _, _⟩) (.int .i64 (q : Int)) (by kernel_rfl) (by kernel_rfl) (by kernel_rfl) rfl (by rfl) (fun W hSw => by go_simp) (fun _ _ _ h => h) HS0.out ?_
      simp only [Act.put, List.setIfInBounds_toArray, List.set_cons_zero, List.set_cons_succ]
      refine hd_take 15 (o := ⟨some 27, _, _, _, _, _⟩) (.int .i64 (lo : Int)) (by kernel_rfl) (by kernel_rfl) (by kernel_rfl) rfl (by rfl) (fun W hSw => by go_simp) (fun _ _ _ h => h) HS0.out ?_
      simp only [Act.put, List.setIfInBounds_toArray, List.set_cons_zero, List.set_cons_succ]
      refine hd_take 16 (o := ⟨some 28, _, _, _, _, _⟩) (.int .u8 (cl.toNat : Int)) (by kernel_rfl) (by kernel_rfl) (by kernel_rfl) rfl (by rfl) (fun W hSw => by go_simp; intro h9; omega) (fun _ _ _ h => h) HS0.out ?_
      simp only [Act.put, List.setIfInBounds_toArray, List.set_cons_zero, List.set_cons_succ]
      refine hd_call 17 (o := ⟨some 29, _, _, _, _, _⟩) (by kernel_rfl) rfl (by rfl) (fun K' hK => ?_)
      refine wp_row 50 5 _ Tryd.underlying50 info_b1 2 _ rfl [.int .u8 (ch.toNat : Int), .int .u8 (cl.toNat : Int)] rfl (by decide) (by decide) (by simp [Value.oneCell']) (by simp; exact ⟨rfl, rfl⟩) ?_
      refine hK _ _ HS1.out ?_
      clear hK K'
      try simp only [Act.put, List.setIfInBounds_toArray, List.set_cons_zero, List.set_cons_succ]
      refine hd_call 18 (o := ⟨some 30, _, _, _, _, _⟩) (by kernel_rfl) rfl (by rfl) (fun K' hK => ?_)
      refine wp_app_bys _ _ rfl w.heap.size _ (hx (Y.take k)) rfl (HO.out.up HA1.out) [ch, cl] w0.heap.size 2 2 rfl rfl (fun j u hu => ?_) (by simp; omega) (by have := HB.out.size; have := HA1.out.size; omega) ?_
      · rw [World.cell?_alloc_new]
        match j, hu with
        | 0, hu => simp at hu; subst hu; rfl
        | 1, hu => simp at hu; subst hu; rfl
        | k + 2, hu => simp at hu
      intro v2 w2 ho hgr
      have HO2 := hide ho
      have HB2 := hide (HB.out.trans ((HA1.out.mono HB.out.size).trans (below_grown (HO.out.up HA1.out) hgr (Nat.le_refl _) (by have := HB.out.size; have := HA1.out.size; omega))))
      have HS2 : Hid ((fun W : World => W.cell? ⟨g, k, none⟩ = some (.int .u8 (q : Int))) w2) := hide ((HB2.out.cell (p := ⟨g, k, none⟩) hg).trans HCQ.out)
      clear ho hgr
      refine hK _ _ HS2.out ?_
      clear hK K'
      try simp only [Act.put, List.setIfInBounds_toArray, List.set_cons_zero, List.set_cons_succ]
      refine hd_take 19 (o := ⟨some 4, _, _, _, _, _⟩) (v2) (by kernel_rfl) (by kernel_rfl) (by kernel_rfl) rfl (by rfl) (fun W hSw => by go_simp) (fun _ _ _ h => h) HS2.out ?_
      simp only [Act.put, List.setIfInBounds_toArray, List.set_cons_zero, List.set_cons_succ]
      refine wpAnyH_done (by kernel_rfl) ?_ _
      have HN : Hid (OwB w2 w.heap.size v2 (hx (Y.take (k + 1))) ∧ Below w.heap.size w w2) := hide ⟨by rw [← HST.out]; exact HO2.out, HB2.out⟩
      clear HO2 HB2 HS2 HS1 HA1 HS0 HO HB
      try go_wp2
      go_roundw
      case rel => exact ⟨k + 1, by omega, by go_num, HN⟩
      case measure => simp [intOf]; omega
    · have hdk : decide ((k : Int) < (n : Int)) = false := by simp; omega
      obtain rfl : k = n := by omega
      rw [List.take_of_length_le (Nat.le_of_eq hn)] at HR
      obtain ⟨a, m, c1, hs, hml, hmc⟩ := HR.out.1.len2
      subst hs
      have hst := str_of HR.out.1
      clear H0
      go_wp2
      go_ret
      exact ⟨rfl, HR.out.2⟩
end Go.Proofs.YtionncfpcbjchaaDoor
