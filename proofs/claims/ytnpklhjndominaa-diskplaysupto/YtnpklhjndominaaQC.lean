import Derived.Test.YtnpklhjndominaaQB
namespace Go.Proofs.Ytnpklhjndominaa
open Go.RowKit

theorem foldl_data (zs : List Int) : ∀ r : ByteArray, (zs.foldl (fun r n => r.push (UInt8.ofNat n.toNat)) r).data.toList = r.data.toList ++ zs.map (fun n => UInt8.ofNat n.toNat) := by
  induction zs with
  | nil => intro r; simp
  | cons z t ih => intro r; rw [List.foldl_cons, ih]; simp [ByteArray.push]
theorem strOf_data (zs : List Nat) : (strOf zs).data.toList = zs.map UInt8.ofNat := by
  unfold strOf; rw [foldl_data]; simp [Function.comp_def]
theorem strOf_inj {zs ys : List Nat} (h : strOf zs = strOf ys) (hz : ∀ z ∈ zs, z < 256) (hy : ∀ z ∈ ys, z < 256) : zs = ys := by
  have h1 : zs.map UInt8.ofNat = ys.map UInt8.ofNat := by rw [← strOf_data, ← strOf_data, h]
  have key : ∀ l : List Nat, (∀ z ∈ l, z < 256) → (l.map UInt8.ofNat).map UInt8.toNat = l := by
    intro l hl
    induction l with
    | nil => rfl
    | cons z t ih =>
      have := hl z (List.mem_cons_self ..)
      simp only [List.map_cons]
      rw [ih (fun y hy => hl y (List.mem_cons_of_mem _ hy))]
      congr 1
      simp [Nat.mod_eq_of_lt this]
  rw [← key zs hz, ← key ys hy, h1]
theorem RkA.congrM {w : World} {R N : Nat} {D : Dsk} {F : Nat → Prop} (h : RkA R D N w F) (M : Nat → List Nat) (hm : ∀ s, s < 1024 → M s = D.M s) : RkA R { D with M := M } N w F := by
  obtain ⟨lv, wv, rl, ds, es, G, h, hn, he⟩ := h
  exact ⟨lv, wv, rl, ds, es, G, ⟨h.top, h.lan, h.wai, h.nR, h.nG, h.nL, fun s hs => (hm s hs).trans (h.med s hs), h.lft⟩, hn, he⟩
theorem RkA.more {w : World} {R N N' : Nat} {D : Dsk} {F : Nat → Prop} (h : RkA R D N w F) (hN : N ≤ N') : RkA R D N' w F := by
  obtain ⟨lv, wv, rl, ds, es, G, h, hn, he⟩ := h
  exact ⟨lv, wv, rl, ds, es, G, h, Nat.le_trans hn hN, he⟩
theorem ofR_size (n cap : Nat) (ao : Option Addr) (w : World) (hn : n ≠ 131072) : Calls Try.prog 8 #[.slice ao n cap] w fun e w' => e = .returned (.tuple #[.pointer none, .int .i64 41]) ∧ w' = w := by
  have hd : ((n : Int) == 131072) = false := by rw [beq_eq_false_iff_ne]; omega
  have hd2 : (n == 131072) = false := by rw [beq_eq_false_iff_ne]; exact hn
  clear hn
  go_enter Try.func8, Try.ntmps8
  go_wp2
  go_ret2
  exact ⟨rfl, rfl⟩
set_option maxRecDepth 100000 in
set_option maxHeartbeats 6400000 in
theorem ofR_any (x : Addr) (cap : Nat) (M : Nat → List Nat) (w : World) (hM : ∀ s, s < 1024 → Sec (M s)) (hcap : 131072 ≤ cap) (hr : ∀ s, s < 1024 → ∀ j v, ((M s).map By)[j]? = some v → w.cell? (x.add (s * 128 + j)) = some v) :
    Calls Try.prog 8 #[.slice (some x) 131072 cap] w fun e w' => e = .returned (.tuple #[tp w.heap.size, .int .i64 0]) ∧ ∃ F', RkA w.heap.size (cln M 0) 1024 w' F' ∧ (∀ b, F' b → w.heap.size ≤ b) ∧ Below w.heap.size w w' := by
  obtain ⟨i3, hi3, hz3, hs3, hb3'⟩ := infoRec
  have HMs := hide hM
  have HRd : Hid (∀ wr s, s < 1024 → Below w.heap.size w wr → Rd wr (.slice (some (x.add (s * 128))) 128 (cap - s * 128)) (M s)) := by
    refine hide (fun wr s hs hb => .inr ⟨_, _, by rw [(hM s hs).1], fun j u hu => ?_⟩)
    rw [Addr.add_add]; exact cell_belowN hb (hr s hs j u hu)
  have HN := hide (newR_any w)
  clear hM hr
  go_enter Try.func8, Try.ntmps8
  go_wp2_with fail
  refine HN.out.mono ?_
  rintro e w1 ⟨rfl, hR1, hb1⟩
  have H0 : Hid (∃ F', RkA w.heap.size (cln (ofM M 0) 0) 0 w1 F' ∧ (∀ b, F' b → w.heap.size ≤ b) ∧ Below w.heap.size w w1) := hide ⟨_, hR1.congrM (ofM M 0) (fun s _ => by simp [ofM, D0]), fun b hb => by rw [hb]; exact Nat.le_refl _, hb1⟩
  obtain ⟨R, hR⟩ : ∃ R, w.heap.size = R := ⟨_, rfl⟩
  rw [hR] at H0 HRd ⊢
  have HRR := hide hR
  clear hR1 hb1 hR HN
  go_wp2
  go_loopw [5] (fun i wr => ∃ k : Nat, k ≤ 1024 ∧ i = .int .i64 (k : Int) ∧ Hid (∃ F', RkA R (cln (ofM M k) 0) k wr F' ∧ (∀ b, F' b → R ≤ b) ∧ Below R w wr)) (fun i _ => room1 i)
  case atStart => exact ⟨0, by omega, rfl, H0⟩
  case round =>
  clear H0
  obtain ⟨k, hk, rfl, KK⟩ := hrel
  by_cases hlt : k < 1024
  · have hd1 : decide (k < 1024) = true := by simp; omega
    have hd2 : decide ((k : Int) < 1024) = true := by simp; omega
    obtain ⟨F', hRk, hF', hbel⟩ := KK.out
    obtain ⟨o1, ho1⟩ : ∃ o, k * 128 = o := ⟨_, rfl⟩
    obtain ⟨o2, ho2⟩ : ∃ o, (k + 1) * 128 = o := ⟨_, rfl⟩
    have hwm : IntKind.i64.wrap ((k : Int) * 128) = (o1 : Int) := wrap_mul k o1 hlt ho1
    have hwm2 : IntKind.i64.wrap (((k : Int) + 1) * 128) = (o2 : Int) := by simp [IntKind.wrap, IntKind.signed, IntKind.bits]; omega
    have hdf : o2 - o1 = 128 := by omega
    have hle1 : (o1 : Int) ≤ (o2 : Int) := by omega
    have hle2 : (o2 : Int) ≤ (cap : Int) := by omega
    have hle3 : (o2 : Int) ≤ 131072 := by omega
    have HSec := hide (HMs.out k hlt)
    have HC := hide (copiedR_any _ (M k) wr (HRd.out wr k hlt hbel) (by rw [HSec.out.1]; omega))
    rw [ho1] at HC
    have hki : (k : Int) < 1024 := by omega
    clear ho1 ho2
    go_upto_region 8 with (go_at_call 12; refine HC.out.mono ?_; rintro e w2 ⟨r, rfl, hr2, hb2⟩)
    obtain ⟨lv, wv, rl, ds, es, G, hkk, hnn, he⟩ := hRk
    obtain ⟨a, cw, hlv⟩ := own_shape hkk.lan.row
    obtain ⟨L, hL⟩ : ∃ L, rl.length = L := ⟨_, rfl⟩
    rw [hL] at hlv hnn
    subst hlv
    have HL := hide hL
    obtain ⟨ar, cr, hrv⟩ := own_shape hr2
    rw [HSec.out.1] at hrv
    subst hrv
    obtain ⟨wd, hwd⟩ : ∃ W, W = w2.drew := ⟨_, rfl⟩
    have hbd2 : Below w2.heap.size w2 wd := by rw [hwd]; exact ⟨rfl, rfl, rfl, Nat.le_refl _, fun _ _ => rfl⟩
    obtain ⟨Z, hmk, hOwZ⟩ := made_sec wd
    have hba := (Below.refl wd.heap.size wd).alloc (Nat.le_refl _) (.cells Z 5)
    have hb3 : Below wr.heap.size wr (wd.alloc (.cells Z 5)) := (hb2.trans (hbd2.mono hb2.size)).trans (hba.mono (Nat.le_trans hb2.size hbd2.size))
    have HS : Hid (Rd wd (.slice ar 128 cr) (M k)) := hide (hr2.rd.below hbd2 (Nat.le_refl _))
    have HS3 : Hid (Rd (wd.alloc (.cells Z 5)) (.slice ar 128 cr) (M k)) := hide (HS.out.below hba (Nat.le_refl _))
    have hO3 : Ow (wd.alloc (.cells Z 5)) wr.heap.size (.slice ar 128 cr) (M k) := (hr2.below hbd2 (Nat.le_refl _)).below hba (Nat.le_refl _)
    have hst := str_run hOwZ.rd
    have hK3 := hkk.keep (w' := wd.alloc (.cells Z 5)) hb3.size (fun b hb => hb3.block b ((good_rk R (cln (ofM M k) 0) k).lt (H := F') ⟨_, wv, rl, ds, es, G, hkk, by rw [HL.out]; exact hnn, he⟩ b ((he b).2 hb)))
    have c0 := hK3.cells.1
    have f0 := hK3.cells.2.2.2.2.2 0
    have HBel : Hid (Below R w (wd.alloc (.cells Z 5))) := hide (hbel.trans (hb3.mono (by rw [← HRR.out]; exact hbel.size)))
    have HRow : Hid ((wd.alloc (.cells Z 5)).ownsRow 0 51 3 (.slice a L cw) L (encRs rl ds)) := hide (by have := hK3.lan.row; rw [HL.out] at this; exact this)
    have HPut : Hid (∀ (o : Obj) (cv2 : Value) (w4 : World), ((wd.alloc (.cells Z 5)).alloc o).grownBy w4 (Value.slice a L cw).ownBlock → (w4.cell? ⟨R, 0, none⟩ = some (.slice a L cw) ∧ w4.frozen? ⟨R, 0, none⟩ = false) ∧ (w4.ownsRow 0 51 3 cv2 (L + 1) (encRs rl ds ++ [.int .i64 (k : Int), .int .i64 0, .slice ar 128 cr]) → (cv2.ownBlock = (Value.slice a L cw).ownBlock ∨ cv2.ownBlock = some ((wd.alloc (.cells Z 5)).alloc o).heap.size) → ∃ F', RkA R (cln (ofM M (k + 1)) 0) (k + 1) (w4.setCell ⟨R, 0, none⟩ cv2) F' ∧ (∀ b, F' b → R ≤ b) ∧ Below R w (w4.setCell ⟨R, 0, none⟩ cv2))) := by
      refine hide (fun o cv2 w4 hg4 => ⟨?_, fun ho4 hl4 => ?_⟩)
      · have hR4 : w4.heap[R]? = (wd.alloc (.cells Z 5)).heap[R]? := by
          have h3 := hK3.lt
          rw [hg4.block R (by rw [World.size_alloc]; omega) (fun e => hK3.nR.1 e.symm), Below.heap_alloc _ _ _ hK3.lt]
        exact ⟨by rw [World.cell?_of_block hR4]; exact c0, by rw [World.frozen?_of_block hR4]; exact f0⟩
      · obtain ⟨F2, q1, q2⟩ := eput (pa := 0) hkk (by rw [HL.out]; exact hnn) he hb3 hO3 ⟨by show 0 + (M k).length ≤ 128; rw [HSec.out.1]; omega, HSec.out.2⟩ hlt (by rw [HL.out]; exact ho4) hg4 hl4
        refine ⟨F2, ?_, q2.low hF' (by rw [← HRR.out]; exact hbel.size), hbel.trans (q2.mod.below hF' (by rw [← HRR.out]; exact hbel.size))⟩
        refine q1.congrM (ofM M (k + 1)) (fun s _ => ?_)
        rw [← ofM_next]
        show upd (ofM M k) k (M k) s = upd (ofM M k) k (splice (ofM M k k) 0 (M k)) s
        rw [splice_full]
        unfold ofM; rw [if_neg (by omega), HSec.out.1]; simp
    have HSame : Hid (strOf (M k) = strOf (List.replicate 128 0) → ∃ F', RkA R (cln (ofM M (k + 1)) 0) (k + 1) (wd.alloc (.cells Z 5)) F' ∧ (∀ b, F' b → R ≤ b) ∧ Below R w (wd.alloc (.cells Z 5))) := by
      refine hide (fun e => ⟨F', ?_, hF', HBel.out⟩)
      have e2 := strOf_inj e HSec.out.2 (fun z hz => by rw [(List.mem_replicate.1 hz).2]; omega)
      have h1 : RkA R (cln (ofM M k) 0) k (wd.alloc (.cells Z 5)) F' := ⟨_, wv, rl, ds, es, G, hK3, by rw [HL.out]; exact hnn, he⟩
      refine (h1.congrM (ofM M (k + 1)) (fun s _ => ?_)).more (Nat.le_succ _)
      show ofM M (k + 1) s = ofM M k s
      unfold ofM
      by_cases hs : s < k
      · rw [if_pos hs, if_pos (by omega)]
      · by_cases hs2 : s = k
        · subst hs2; rw [if_pos (by omega), if_neg hs, e2]
        · rw [if_neg (by omega), if_neg hs]
    refine wp_region_held_drew (S := fun W => Rd W (.slice ar 128 cr) (M k)) (by kernel_rfl) (by rw [← hwd]; exact HS.out) (fun _ => ?_)
    rw [← hwd]
    have hLb : L ≤ 1024 := by omega
    clear hkk he hL hwd hbd2 hba hb3 hO3 hOwZ hK3 hr2 hb2 hbel hnn hF' HC KK HRd hwm hwm2 hdf hle1 hle2 hle3
    by_cases hse : strOf (M k) = strOf (List.replicate 128 0)
    all_goals
      have HStr : Hid (∀ W, Rd W (.slice ar 128 cr) (M k) → (convert 27 9 (.slice ar 128 cr)).run Try.prog W = .ok (.string (strOf (M k))) W) := hide (fun W hW => str_run hW)
      obtain ⟨s1, hs1⟩ : ∃ s1, strOf (M k) = s1 := ⟨_, rfl⟩
      obtain ⟨s2, hs2⟩ : ∃ s2, strOf (List.replicate 128 0) = s2 := ⟨_, rfl⟩
      rw [hs1, hs2] at hse
      rw [hs1] at HStr
      rw [hs2] at hst
      rw [hs1, hs2] at HSame
      clear hs1 hs2
    · have HOk := hide (HSame.out hse)
      subst hse
      clear HSame HPut HRow
      refine hd_take 0 (o := ⟨some 23, _, _, _, _, _⟩) (.slice ar 128 cr) (by kernel_rfl) (by kernel_rfl) (by kernel_rfl) rfl (by rfl) (fun W hSw => by go_simp) (fun _ _ _ h => h) HS.out ?_
      simp only [Act.put, List.setIfInBounds_toArray, List.set_cons_zero, List.set_cons_succ]
      refine hd_take 1 (o := ⟨some 24, _, _, _, _, _⟩) (.string s1) (by kernel_rfl) (by kernel_rfl) (by kernel_rfl) rfl (by rfl) (fun W hSw => by have hq := HStr.out W hSw; go_simp) (fun _ _ _ h => h) HS.out ?_
      simp only [Act.put, List.setIfInBounds_toArray, List.set_cons_zero, List.set_cons_succ]
      refine hd_call 2 (o := ⟨some 25, _, _, _, _, _⟩) (by kernel_rfl) rfl (by rfl) (fun K' hK => ?_)
      go_simp
      refine hK _ _ HS3.out ?_
      clear hK K'
      try simp only [Act.put, List.setIfInBounds_toArray, List.set_cons_zero, List.set_cons_succ]
      refine hd_call 3 (o := ⟨some 26, _, _, _, _, _⟩) (by kernel_rfl) rfl (by rfl) (fun K' hK => ?_)
      go_simp
      refine hK _ _ HS3.out ?_
      clear hK K'
      try simp only [Act.put, List.setIfInBounds_toArray, List.set_cons_zero, List.set_cons_succ]
      refine hd_call 4 (o := ⟨some 27, _, _, _, _, _⟩) (by kernel_rfl) rfl (by rfl) (fun K' hK => ?_)
      go_simp
      refine hK _ _ HS3.out ?_
      clear hK K'
      try simp only [Act.put, List.setIfInBounds_toArray, List.set_cons_zero, List.set_cons_succ]
      refine wpAnyH_done (by kernel_rfl) ?_ _
      clear HStr hst hmk HS HS3
      generalize wd.alloc (.cells Z 5) = w5 at *
      clear c0 f0
      go_wp2
      go_roundw
      case rel => exact ⟨k + 1, by omega, by go_num, HOk⟩
      case measure => simp [room1, intOf]; omega
    · have hsd : (s1.toList == s2.toList) = false := by
        rw [beq_eq_false_iff_ne, ByteArray.toList_eq, ByteArray.toList_eq]
        intro e
        exact hse (by obtain ⟨⟨x⟩⟩ := s1; obtain ⟨⟨y⟩⟩ := s2; cases e; rfl)
      clear HSame hse
      refine hd_take 0 (o := ⟨some 23, _, _, _, _, _⟩) (.slice ar 128 cr) (by kernel_rfl) (by kernel_rfl) (by kernel_rfl) rfl (by rfl) (fun W hSw => by go_simp) (fun _ _ _ h => h) HS.out ?_
      simp only [Act.put, List.setIfInBounds_toArray, List.set_cons_zero, List.set_cons_succ]
      refine hd_take 1 (o := ⟨some 24, _, _, _, _, _⟩) (.string s1) (by kernel_rfl) (by kernel_rfl) (by kernel_rfl) rfl (by rfl) (fun W hSw => by have hq := HStr.out W hSw; go_simp) (fun _ _ _ h => h) HS.out ?_
      simp only [Act.put, List.setIfInBounds_toArray, List.set_cons_zero, List.set_cons_succ]
      refine hd_call 2 (o := ⟨some 25, _, _, _, _, _⟩) (by kernel_rfl) rfl (by rfl) (fun K' hK => ?_)
      go_simp
      refine hK _ _ HS3.out ?_
      clear hK K'
      try simp only [Act.put, List.setIfInBounds_toArray, List.set_cons_zero, List.set_cons_succ]
      refine hd_call 3 (o := ⟨some 26, _, _, _, _, _⟩) (by kernel_rfl) rfl (by rfl) (fun K' hK => ?_)
      go_simp
      refine hK _ _ HS3.out ?_
      clear hK K'
      try simp only [Act.put, List.setIfInBounds_toArray, List.set_cons_zero, List.set_cons_succ]
      refine hd_call 4 (o := ⟨some 27, _, _, _, _, _⟩) (by kernel_rfl) rfl (by rfl) (fun K' hK => ?_)
      go_simp
      refine hK _ _ HS3.out ?_
      clear hK K'
      try simp only [Act.put, List.setIfInBounds_toArray, List.set_cons_zero, List.set_cons_succ]
      refine wpAnyH_done (by kernel_rfl) ?_ _
      clear HStr hst hmk HS HS3
      generalize wd.alloc (.cells Z 5) = w5 at *
      go_upto_region 6 with (at_builtin; refine wpList_append_own_at _ rfl _ _ 46 rfl 0 51 i3 (.agg #[.int .i64 0, .int .i64 0, .slice none 0 0]) 3 40 Try.underlying46 hi3 hz3 hs3 hb3' rfl (by decide) _ L (encRs rl ds) rfl (HRow.out.alloc _) ⟨w5.heap.size, 0, none⟩ 1 1 [.int .i64 (k : Int), .int .i64 0, .slice ar 128 cr] rfl rfl ?c1 ?c2 ?c3 ?c4 ?c5 ?_)
      case c1 => exact cell_three_new _ _ _ _ _
      case c2 => simp [Value.oneCell']
      case c3 => unfold maxLen; omega
      case c4 => omega
      case c5 => exact Nat.zero_le _
      intro cv2 w4 ho4 hg4 _ hl4
      obtain ⟨⟨k0, k1⟩, hfin⟩ := HPut.out _ cv2 w4 hg4
      have HOk := hide (hfin ho4 (by simpa using hl4))
      obtain ⟨a2, c2', rfl⟩ := own_shape ho4
      clear ho4 hg4 hl4 hfin HPut HRow c0 f0
      go_upto_region 6 with fail
      generalize w4.setCell ⟨R, 0, none⟩ _ = w6 at *
      clear k0 k1
      go_wp2
      go_roundw
      case rel => exact ⟨k + 1, by omega, by go_num, HOk⟩
      case measure => simp [room1, intOf]; omega
  · obtain rfl : k = 1024 := by omega
    have hd1 : decide ((1024 : Int) < 1024) = false := by simp
    go_wp2
    go_ret2
    obtain ⟨F', q1, q2, q3⟩ := KK.out
    obtain rfl := HRR.out
    exact ⟨rfl, F', q1.congrM M (fun s hs => by simp [cln, ofM, hs]), q2, q3⟩
end Go.Proofs.Ytnpklhjndominaa
