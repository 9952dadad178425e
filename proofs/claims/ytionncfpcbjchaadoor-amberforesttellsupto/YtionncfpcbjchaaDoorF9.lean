import Derived.Test.YtionncfpcbjchaaDoorF8
namespace Go.Proofs.YtionncfpcbjchaaDoor
open Go.RowKit
theorem info_ma : (Tryd.prog.info? 45).map (·.size) = some 4 := by kernel_rfl
theorem info_ca : (Tryd.prog.info? 43).map (·.size) = some 8 := by kernel_rfl
theorem info_en : (Tryd.prog.info? 39).map (·.size) = some 17 := by kernel_rfl
theorem info_ou : (Tryd.prog.info? 49).map (·.size) = some 2 := by kernel_rfl
theorem info_fo : (Tryd.prog.info? 28).map (·.size) = some 5 := by kernel_rfl
theorem info_qu : (Tryd.prog.info? 37).map (·.size) = some 3 := by kernel_rfl
/-- where a sheet stands in a walk that began at w -/
structure Stt (w : World) (b : Nat) (X : Tx) (wr : World) : Prop where
  sh : Sh wr b X
  fr : Fr b w wr
  tb : Tb wr
section
variable {w w1 w2 : World} {b : Nat} {X X' : Tx}
theorem Stt.call (h : Stt w b X w1) (h3 : 3 ≤ b) (hs : Sh w2 b X') (hf : Fr b w1 w2) : Stt w b X' w2 := ⟨hs, h.fr.trans hf, h.tb.fr h3 hf⟩
theorem Stt.up (h : Stt w b X w1) (h3 : 3 ≤ b) (hb : Below w1.heap.size w1 w2) : Stt w b X w2 := h.call h3 (h.sh.up hb) (Fr.of hb (Nat.le_of_lt h.sh.lt))
theorem box_below (w : World) (zs cs : List Value) (T : TypeId) : Below w.heap.size w (putB (w.alloc (.cells zs.toArray T)) w.heap.size cs T) := putB_below ((Below.refl _ _).alloc (Nat.le_refl _) _) (Nat.le_refl _) _ _
theorem box_blk (w : World) (zs cs : List Value) (T : TypeId) : Blk (putB (w.alloc (.cells zs.toArray T)) w.heap.size cs T) w.heap.size T cs := (Blk.new w zs T).put cs
theorem drew_below (w : World) : Below w.heap.size w w.drew := (Below.refl _ _).drew
end
set_option maxRecDepth 100000 in
set_option maxHeartbeats 4000000 in
theorem maps_any (w : World) (b : Nat) (T : Tx) (a : Option Addr) (n c : Nat) (M : Nat → MaG) (hM : ∀ k, k < n → (M k).Ok) (h3 : 3 ≤ b) (h : Sh w b T) (hF : Fresh T) (hR : RowIs b w a n 4 fun k => (M k).cells) (hT : Tb w) (hl : T.length + 500 * n ≤ 600000000) :
    Calls Tryd.prog 22 #[.pointer (some ⟨b, 0, none⟩), .slice a n c] w fun e w' => e = .returned (.tuple #[]) ∧ Sh w' b (T ++ upT (fun k => mapT (M k)) n) ∧ Fr b w w' := by
  have HM := hide hM
  have HFr := hide (upT_fresh (f := fun k => mapT (M k)) (fun k => ⟨_, rfl⟩) hF)
  have HLn := hide (upT_len (f := fun k => mapT (M k)) (fun k hk => mapT_len (hM k hk)))
  have H0 : Hid (Stt w b (T ++ upT (fun k => mapT (M k)) 0) w) := hide ⟨by simpa [upT] using h, Fr.refl _ _, hT⟩
  have HR := hide hR
  have HL := hide hl
  have hn12 : n ≤ 1200000 := by omega
  clear h hT hR hM hF hl
  go_enter Tryd.func22, Tryd.ntmps22
  go_wp2
  go_loopw [8] (fun i wr => ∃ k : Nat, k ≤ n ∧ i = .int .i64 (k : Int) ∧ Hid (Stt w b (T ++ upT (fun k => mapT (M k)) k) wr)) (fun i _ => n - (intOf i).toNat)
  case atStart => exact ⟨0, by omega, rfl, H0⟩
  case round =>
    obtain ⟨k, hk, rfl, HS⟩ := hrel
    by_cases hlt : k < n
    · have hd : decide ((k : Int) < (n : Int)) = true := by simp; omega
      obtain ⟨ad, rfl, hadb, hc⟩ := (HR.out.keep HS.out.fr.1) k hlt
      have HC : Hid (∀ (j : Nat) (v : Value), (M k).cells[j]? = some v → wr.cell? ((ad.add (k * 4)).add j) = some v) := hide hc
      have HO : Hid (M k).Ok := hide (HM.out k hlt)
      have HFk := hide (HFr.out k)
      have HLk : Hid ((T ++ upT (fun k => mapT (M k)) k).length + 500 ≤ 600000000) := hide (by have h1 := HLn.out k (by omega); have h2 := HL.out; rw [List.length_append]; omega)
      have HUp : Hid (T ++ upT (fun k => mapT (M k)) (k + 1) = T ++ upT (fun k => mapT (M k)) k ++ mapT (M k)) := hide (by rw [upT_succ, List.append_assoc])
      clear hc
      obtain ⟨⟨me, mv, ms, mw⟩, hm⟩ : ∃ m, M k = m := ⟨_, rfl⟩
      rw [hm] at HC HO HUp
      obtain ⟨X, hX⟩ : ∃ X, T ++ upT (fun k => mapT (M k)) k = X := ⟨_, rfl⟩
      rw [hX] at HS HFk HLk HUp
      clear hm hX
      have HZ : Hid (Blk (wr.alloc (.cells #[.int .i64 0, .int .i64 0, .int .i64 0, .bool false] 45)) wr.heap.size 45 [.int .i64 0, .int .i64 0, .int .i64 0, .bool false]) := hide ⟨heap_alloc_last _ _⟩
      go_upto_region 3 with (first | (refine loadT Tryd.underlying45 rfl (MaG.cells ⟨me, mv, ms, mw⟩) info_ma (by rfl) _ rfl (ad.add (k * 4)) rfl HC.out ?_) | (refine storeB (MaG.cells ⟨me, mv, ms, mw⟩) info_ma rfl rfl _ _ rfl wr.heap.size rfl rfl _ HZ.out rfl ?_))
      simp only [Act.put]
      have HS2 := hide (HS.out.up h3 (box_below wr [.int .i64 0, .int .i64 0, .int .i64 0, .bool false] (MaG.cells ⟨me, mv, ms, mw⟩) 45))
      have HB2 := hide (box_blk wr [.int .i64 0, .int .i64 0, .int .i64 0, .bool false] (MaG.cells ⟨me, mv, ms, mw⟩) 45)
      have hEb : wr.heap.size ≠ b := by have := HS.out.sh.lt; omega
      clear HZ HC HS
      generalize putB (wr.alloc (.cells [.int .i64 0, .int .i64 0, .int .i64 0, .bool false].toArray 45)) wr.heap.size (MaG.cells ⟨me, mv, ms, mw⟩) 45 = w2 at *
      obtain ⟨E, hE⟩ : ∃ E, wr.heap.size = E := ⟨_, rfl⟩
      rw [hE] at HB2 hEb
      have hE' := hE
      rw [hE]
      clear hE hE'
      obtain ⟨w0, hwD⟩ : ∃ wD, wD = w2.drew := ⟨_, rfl⟩
      have HSD : Hid (Stt w b X w0) := by rw [hwD]; exact hide (HS2.out.up h3 (drew_below w2))
      have HBD : Hid (Blk w0 E 45 (MaG.cells ⟨me, mv, ms, mw⟩)) := by rw [hwD]; exact hide (HB2.out.below (drew_below w2) HB2.out.lt)
      have HS0 : Hid ((fun W : World => Blk W E 45 (MaG.cells ⟨me, mv, ms, mw⟩)) w0) := HBD
      have hA1 : Below w0.heap.size w0 (w0.alloc (.cells #[.int .i64 (me), .int .i64 (mv), .int .i64 (ms), .int .i64 (fl mw)] 3)) := (Below.refl _ _).alloc (Nat.le_refl _) _
      have HS1 : Hid ((fun W : World => Blk W E 45 (MaG.cells ⟨me, mv, ms, mw⟩)) (w0.alloc (.cells #[.int .i64 (me), .int .i64 (mv), .int .i64 (ms), .int .i64 (fl mw)] 3))) := hide (HBD.out.below hA1 HBD.out.lt)
      have HSA := hide (HSD.out.up h3 hA1)
      have HRA : Hid (RdI (w0.alloc (.cells #[.int .i64 (me), .int .i64 (mv), .int .i64 (ms), .int .i64 (fl mw)] 3)) (.slice (some ⟨w0.heap.size, 0, none⟩) 4 4) [me, mv, ms, fl mw]) := hide (by have := RdI.new w0 [me, mv, ms, fl mw] 4 4 rfl (Nat.le_refl _); simpa [In] using this)
      clear hA1
      refine wp_region_held_drew (S := fun W : World => Blk W E 45 (MaG.cells ⟨me, mv, ms, mw⟩)) (by kernel_rfl) (by rw [← hwD]; exact HS0.out) (fun hHeld => ?_)
      rw [← hwD]
      clear hwD hHeld HS2 HB2
      refine hd_take 0 (o := ⟨some 12, _, _, _, _, _⟩) (.pointer (some ⟨b, 0, none⟩)) (by kernel_rfl) (by kernel_rfl) (by kernel_rfl) rfl (by rfl) (fun W hSw => by go_simp) (fun _ _ _ h => h) HS0.out ?_
      simp only [Act.put, List.setIfInBounds_toArray, List.set_cons_zero, List.set_cons_succ]
      refine hd_take 1 (o := ⟨some 13, _, _, _, _, _⟩) (.pointer (some ⟨E, 0, none⟩)) (by kernel_rfl) (by kernel_rfl) (by kernel_rfl) rfl (by rfl) (fun W hSw => by go_simp) (fun _ _ _ h => h) HS0.out ?_
      simp only [Act.put, List.setIfInBounds_toArray, List.set_cons_zero, List.set_cons_succ]
      refine hd_take 2 (o := ⟨some 14, _, _, _, _, _⟩) (.int .i64 me) (by kernel_rfl) (by kernel_rfl) (by kernel_rfl) rfl (by rfl) (fun W hSw => by have h9 := Blk.get (show Blk W E 45 (MaG.cells ⟨me, mv, ms, mw⟩) from hSw) (j := 0) rfl; go_simp) (fun _ _ _ h => h) HS0.out ?_
      simp only [Act.put, List.setIfInBounds_toArray, List.set_cons_zero, List.set_cons_succ]
      refine hd_take 3 (o := ⟨some 15, _, _, _, _, _⟩) (.pointer (some ⟨E, 1, none⟩)) (by kernel_rfl) (by kernel_rfl) (by kernel_rfl) rfl (by rfl) (fun W hSw => by go_simp) (fun _ _ _ h => h) HS0.out ?_
      simp only [Act.put, List.setIfInBounds_toArray, List.set_cons_zero, List.set_cons_succ]
      refine hd_take 4 (o := ⟨some 16, _, _, _, _, _⟩) (.int .i64 mv) (by kernel_rfl) (by kernel_rfl) (by kernel_rfl) rfl (by rfl) (fun W hSw => by have h9 := Blk.get (show Blk W E 45 (MaG.cells ⟨me, mv, ms, mw⟩) from hSw) (j := 1) rfl; go_simp) (fun _ _ _ h => h) HS0.out ?_
      simp only [Act.put, List.setIfInBounds_toArray, List.set_cons_zero, List.set_cons_succ]
      refine hd_take 5 (o := ⟨some 17, _, _, _, _, _⟩) (.pointer (some ⟨E, 2, none⟩)) (by kernel_rfl) (by kernel_rfl) (by kernel_rfl) rfl (by rfl) (fun W hSw => by go_simp) (fun _ _ _ h => h) HS0.out ?_
      simp only [Act.put, List.setIfInBounds_toArray, List.set_cons_zero, List.set_cons_succ]
      refine hd_take 6 (o := ⟨some 18, _, _, _, _, _⟩) (.int .i64 ms) (by kernel_rfl) (by kernel_rfl) (by kernel_rfl) rfl (by rfl) (fun W hSw => by have h9 := Blk.get (show Blk W E 45 (MaG.cells ⟨me, mv, ms, mw⟩) from hSw) (j := 2) rfl; go_simp) (fun _ _ _ h => h) HS0.out ?_
      simp only [Act.put, List.setIfInBounds_toArray, List.set_cons_zero, List.set_cons_succ]
      refine hd_take 7 (o := ⟨some 19, _, _, _, _, _⟩) (.pointer (some ⟨E, 3, none⟩)) (by kernel_rfl) (by kernel_rfl) (by kernel_rfl) rfl (by rfl) (fun W hSw => by go_simp) (fun _ _ _ h => h) HS0.out ?_
      simp only [Act.put, List.setIfInBounds_toArray, List.set_cons_zero, List.set_cons_succ]
      refine hd_take 8 (o := ⟨some 20, _, _, _, _, _⟩) (.bool mw) (by kernel_rfl) (by kernel_rfl) (by kernel_rfl) rfl (by rfl) (fun W hSw => by have h9 := Blk.get (show Blk W E 45 (MaG.cells ⟨me, mv, ms, mw⟩) from hSw) (j := 3) rfl; go_simp) (fun _ _ _ h => h) HS0.out ?_
      simp only [Act.put, List.setIfInBounds_toArray, List.set_cons_zero, List.set_cons_succ]
      refine hd_call 9 (o := ⟨some 21, _, _, _, _, _⟩) (by kernel_rfl) rfl (by rfl) (fun K' hK => ?_)
      go_wp2_with fail
      refine (flag_any _ mw).mono ?_
      rintro e w9 ⟨rfl, hw9⟩
      subst hw9
      refine hK _ _ HS0.out ?_
      clear hK K'
      try simp only [Act.put, List.setIfInBounds_toArray, List.set_cons_zero, List.set_cons_succ]
      refine hd_call 10 (o := ⟨some 22, _, _, _, _, _⟩) (by kernel_rfl) rfl (by rfl) (fun K' hK => ?_)
      refine wp_row 56 3 _ Tryd.underlying56 info_i1 4 _ rfl [.int .i64 (me), .int .i64 (mv), .int .i64 (ms), .int .i64 (fl mw)] rfl (by decide) (by decide) (by simp [Value.oneCell']) (by simp; exact ⟨rfl, rfl, rfl, rfl⟩) ?_
      refine hK _ _ HS1.out ?_
      clear hK K'
      try simp only [Act.put, List.setIfInBounds_toArray, List.set_cons_zero, List.set_cons_succ]
      refine hd_call 11 (o := ⟨some 23, _, _, _, _, _⟩) (by kernel_rfl) rfl (by rfl) (fun K' hK => ?_)
      go_wp2_with fail
      refine (line_any _ b X [109, 97, 112] [me, mv, ms, fl mw] _ h3 HSA.out.sh HFk.out ⟨112, rfl, by decide⟩ HRA.out (all_cons HO.out.e (all_cons HO.out.v (all_cons HO.out.s (all_cons (fl64 mw) all_nil)))) HSA.out.tb (by have := HLk.out; simp; omega)).mono ?_
      rintro e w5 ⟨rfl, hs5, hf5⟩
      have HS5 := hide (HSA.out.call h3 hs5 hf5)
      have HB5 : Hid ((fun W : World => Blk W E 45 (MaG.cells ⟨me, mv, ms, mw⟩)) w5) := hide (HS1.out.fr (by decide) hEb hf5)
      clear hs5 hf5
      refine hK _ _ HB5.out ?_
      clear hK K'
      try simp only [Act.put, List.setIfInBounds_toArray, List.set_cons_zero, List.set_cons_succ]
      refine wpAnyH_done (by kernel_rfl) ?_ _
      have HN : Hid (Stt w b (T ++ upT (fun k => mapT (M k)) (k + 1)) w5) := hide (by rw [HUp.out]; exact HS5.out)
      clear HS5 HB5 HSA HRA HS1 HS0 HSD HBD
      try go_wp2
      go_roundw
      case rel => exact ⟨k + 1, by omega, by go_num, HN⟩
      case measure => simp [intOf]; omega
    · have hd : decide ((k : Int) < (n : Int)) = false := by simp; omega
      obtain rfl : k = n := by omega
      clear H0
      go_wp2
      go_end0
      exact ⟨rfl, HS.out.sh, HS.out.fr⟩
end Go.Proofs.YtionncfpcbjchaaDoor
