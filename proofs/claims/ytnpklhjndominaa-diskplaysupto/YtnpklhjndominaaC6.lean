import Derived.Test.YtnpklhjndominaaC5
import Derived.Deep.RegionHeld
namespace Go.Proofs.Ytnpklhjndominaa
open Go.RowKit

theorem info68 : (Try.prog.info? 41).map (·.size) = some 128 := by kernel_rfl
/-- the disk behind the first k writes of a settling -/
def Dsk.mid (D : Dsk) (p : Nat → Bool) (k : Nat) : Dsk := { D with M := play D.M (keptTo p D.c k) }
theorem Dsk.Ok.mid {D : Dsk} (h : D.Ok) (p : Nat → Bool) (k : Nat) : (D.mid p k).Ok := ⟨play_sec h.m (fun x hx => h.c x (keptTo_mem hx)), h.c, h.l⟩
theorem keep_drew {W : World} {B g k n cap t : Nat} {X : List Value} (h : (W.cell? ⟨B, 131072, none⟩ = some (.slice (some ⟨g, 0, none⟩) n cap) ∧ W.cell? ⟨g, k * 129, none⟩ = some (.int .i64 (t : Int))) ∧ W.rangeAt g (k * 129 + 1) X ∧ W.there B (t * 128) 128) :
    (W.drew.cell? ⟨B, 131072, none⟩ = some (.slice (some ⟨g, 0, none⟩) n cap) ∧ W.drew.cell? ⟨g, k * 129, none⟩ = some (.int .i64 (t : Int))) ∧ W.drew.rangeAt g (k * 129 + 1) X ∧ W.drew.there B (t * 128) 128 := h
theorem keep_store {W : World} {B g k n cap t : Nat} {X : List Value} (hg : g ≠ B) (ht : t < 1024) (hX : X.length = 128) (h : (W.cell? ⟨B, 131072, none⟩ = some (.slice (some ⟨g, 0, none⟩) n cap) ∧ W.cell? ⟨g, k * 129, none⟩ = some (.int .i64 (t : Int))) ∧ W.rangeAt g (k * 129 + 1) X ∧ W.there B (t * 128) 128) :
    ((W.setCells B (t * 128) X).cell? ⟨B, 131072, none⟩ = some (.slice (some ⟨g, 0, none⟩) n cap) ∧ (W.setCells B (t * 128) X).cell? ⟨g, k * 129, none⟩ = some (.int .i64 (t : Int))) ∧ (W.setCells B (t * 128) X).rangeAt g (k * 129 + 1) X ∧ (W.setCells B (t * 128) X).there B (t * 128) 128 := by
  obtain ⟨⟨h1, h2⟩, h3, h4⟩ := h
  refine ⟨⟨?_, ?_⟩, World.rangeAt_setCells_apart h3 _ _ _ (.inl hg), World.there_setCells h4 _ _ _⟩
  · rw [World.cell?_setCells_out B X (t * 128) W ⟨B, 131072, none⟩ (fun _ _ => .inr (by show t * 128 + X.length ≤ 131072; omega))]; exact h1
  · rw [World.cell?_setCells_out B X (t * 128) W ⟨g, k * 129, none⟩ (fun e _ => absurd e hg)]; exact h2
theorem splice_full {a b : List Nat} (h : a.length = b.length) : splice a 0 b = b := by
  simp [splice, ← h]
theorem mid_next {B : Nat} {D : Dsk} {w w1 : World} {F : Nat → Prop} {p : Nat → Bool} {k t : Nat} {bs : List Nat} {cs' : Array Value} {cv : Value} {X : List Value} (hB : F B) (hp : p k = true) (hx : D.c[k]? = some (t, bs)) (ht : t < 1024 ∧ Sec bs) (hM : Mod F w w1)
    (hD : DkAt w1 B cs' cv (D.mid p k)) (hX : bs.map By = X) : Mod F w (w1.drew.setCells B (t * 128) X) ∧ ∃ cs2, DkAt (w1.drew.setCells B (t * 128) X) B cs2 cv (D.mid p (k + 1)) := by
  refine ⟨hM.drew.setCells (.inl hB) _ _, ?_⟩
  obtain ⟨cs2, h1, h2, h3⟩ := heap_setCells B 45 X (t * 128) w1.drew cs' hD.drew.top
  have hl : ((D.mid p k).M t).length = bs.length := by rw [(hD.ok.m t ht.1).1, ht.2.1]
  have hc := hD.inn.setMed hD.ok (s := t) (a := 0) (zs := bs) (b := bs) ht.1 (by rw [ht.2.1]; omega) (splice_full hl).symm h2 (by
    intro j hj
    rw [h3 j hj, ← hX]
    simp)
  have e : ({ D.mid p k with M := upd (D.mid p k).M t bs } : Dsk) = D.mid p (k + 1) := by
    unfold Dsk.mid
    rw [keptTo_yes hp hx, play_snoc]
  rw [e] at hc
  have hok : (D.mid p (k + 1)).Ok := by
    rw [← e]
    exact ⟨fun s hs => by show Sec (upd _ t bs s); unfold upd; split; exact ht.2; exact hD.ok.m s hs, hD.ok.c, hD.ok.l⟩
  exact ⟨cs2, hD.drew.turn h1 hc rfl hok (fun b hb => heap_setCells_other B b hb _ _ _)⟩
set_option maxRecDepth 100000 in
set_option maxHeartbeats 1000000 in
theorem settle_flush {B : Nat} {D : Dsk} {w : World} {F : Nat → Prop} (hd : DkA B D w F) (p : Nat → Bool)
    (HK : Hid (∀ w', Mod F w w' → ∀ i : Nat, Calls Try.prog 34 #[.int .i64 (i : Int)] w' fun e w'' => e = .returned (.bool (p i)) ∧ w'' = w')) :
    Calls Try.prog 33 #[dp B, .func (.func 34) #[] #[]] w fun e w' => e = .returned (.int .i64 ((keptTo p D.c D.c.length).length : Nat)) ∧ ∃ F', DkA B (D.settled p) w' F' ∧ Ext F w F' w' := by
  obtain ⟨cs, cv, h, he⟩ := hd
  have hB := (he B).2 (.inl rfl)
  obtain ⟨ao, cap, hcv⟩ := h.len
  obtain ⟨n, hn⟩ : ∃ n, D.c.length = n := ⟨_, rfl⟩
  have h1 := h.cch
  rw [hcv, hn] at h1
  rw [hn] at hcv
  have hbig : n ≤ 9223372036854775807 := by
    have := h.row
    obtain ⟨_, ⟨_, h0⟩ | ⟨g, cp, cur, _, _, _, h2, h3, _⟩⟩ := this
    · omega
    · unfold maxLen at h3; omega
  have HH := hide h
  have HN := hide hn
  have HE := hide he
  rw [hn]
  clear h hn he
  go_enter Try.func33, Try.ntmps33
  go_wp2
  go_loopw [5, 12] (fun c i wr => ∃ k : Nat, k ≤ n ∧ i = .int .i64 (k : Int) ∧ c = .int .i64 ((keptTo p D.c k).length : Nat) ∧ Mod F w wr ∧ ∃ cs', DkAt wr B cs' cv (D.mid p k)) (fun _ i _ => n - (intOf i).toNat)
  case atStart => exact ⟨0, Nat.zero_le _, rfl, rfl, Mod.refl _ _, cs, HH.out⟩
  case round =>
    obtain ⟨k, hk, rfl, rfl, hM, cs', hD⟩ := hrel
    have HM := hide hM
    by_cases hlt : k < n
    · have hd1 : decide (k < n) = true := by simp; omega
      have hkl : k < D.c.length := by rw [HN.out]; omega
      obtain ⟨x, hx⟩ : ∃ x, D.c[k]? = some x := ⟨_, List.getElem?_eq_getElem hkl⟩
      have hlen := keptTo_len p D.c k
      obtain ⟨ct, hct⟩ : ∃ ct, (keptTo p D.c k).length = ct := ⟨_, rfl⟩
      rw [hct] at hlen ⊢
      have HD := hide hD
      have HX := hide hx
      have HCT := hide hct
      clear hM hD hx hct
      cases hp : p k
      · go_wp2_with fail
        refine (HK.out _ HM.out k).mono ?_
        rintro e w1 ⟨rfl, rfl⟩
        have HD1 : Hid (DkAt w1 B cs' cv (D.mid p (k + 1))) := by
          have := HD.out
          unfold Dsk.mid at this ⊢
          rw [keptTo_no hp]; exact this
        go_wp2
        go_roundw
        case rel => exact ⟨k + 1, by omega, by go_num, by rw [keptTo_no hp, HCT.out], HM.out, cs', HD1.out⟩
        case measure => simp [intOf]; omega
      · obtain ⟨g, cp, hcv', hgB, hsec, hbyt⟩ := HD.out.entry (show (D.mid p k).c[k]? = some x from HX.out)
        have hcv2 : cv = .slice (some ⟨g, 0, none⟩) n cp := by rw [hcv']; show Value.slice _ D.c.length _ = _; rw [HN.out]
        rw [hcv] at hcv2
        simp at hcv2
        obtain ⟨rfl, rfl⟩ := hcv2
        have hcx := HH.out.ok.c x (List.mem_of_getElem? HX.out)
        have h5 := HD.out.cch
        rw [hcv] at h5
        obtain ⟨t, bs⟩ := x
        simp only at hsec hbyt hcx
        have hthere : wr.there B (t * 128) 128 := fun j hj => ⟨by rw [cell_of_row _ _ _ _ _ _ HD.out.top]; simp; have := HD.out.inn.size; omega, HD.out.frz _⟩
        obtain ⟨X, hX⟩ : ∃ X, bs.map By = X := ⟨_, rfl⟩
        have hXl : X.length = 128 := by rw [← hX, List.length_map]; exact hcx.2.1
        have hX1 : ∀ v ∈ X, v.oneCell' = true := by rw [← hX]; exact By_one bs
        rw [hX] at hbyt
        have hi68 : (Try.prog.info? 41).map (·.size) = some X.length := by rw [hXl]; exact info68
        have hu68 := Try.underlying41
        have hct2 : ct < 9223372036854775807 := by omega
        have ht := hcx.1
        have HCX := hide hcx
        have HHX := hide hX
        have HCV := hide hcv
        clear hcx hX hcv'
        go_wp2_with fail
        refine (HK.out _ HM.out k).mono ?_
        rw [hp]
        rintro e w1 ⟨rfl, rfl⟩
        go_wp2
        go_region_held (fun w' => (w'.cell? ⟨B, 131072, none⟩ = some (.slice (some ⟨g, 0, none⟩) n cap) ∧ w'.cell? ⟨g, k * 129, none⟩ = some (.int .i64 (t : Int))) ∧ w'.rangeAt g (k * 129 + 1) X ∧ w'.there B (t * 128) 128)
          (first | exact keep_drew (And.intro (And.intro h5 hsec) (And.intro hbyt hthere)) | (refine keep_store hgB ht hXl ?_; assumption))
          (fail)
        have HN2 := hide (mid_next hB hp HX.out HCX.out HM.out HD.out HHX.out)
        rename_i hHeld
        clear hHeld h5 hsec hthere hbyt HD
        generalize w1.drew.setCells B (t * 128) X = w2 at *
        go_wp2
        go_roundw
        case rel => exact ⟨k + 1, by omega, by go_num, by rw [keptTo_yes hp HX.out, List.length_append, HCT.out]; rfl, HN2.out.1, HN2.out.2⟩
        case measure => simp [intOf]; omega
    · obtain rfl : k = n := by omega
      have h5 := hD.cch
      have f5 := hD.frz 131072
      have hsz := hM.size
      have HD := hide hD
      clear hM hD
      go_wp2
      go_ret
      refine ⟨rfl, fun b => b = B, ⟨_, .slice none 0 0, ⟨heap_setCell_same _ _ _ _ _ _ HD.out.top, ?_, World.ownsRow_nil _ _ _ _, by simp [Value.ownBlock], HH.out.ok.settled p⟩, fun b => by simp [Value.ownBlock]⟩, HM.out.setCell (.inl hB) _, fun b hb => .inl (by rw [hb]; exact hB)⟩
      have := HD.out.inn.setCch HD.out.ok (.slice none 0 0) []
      simpa [Dsk.settled, Dsk.mid, HN.out] using this
set_option maxRecDepth 100000 in
set_option maxHeartbeats 1000000 in
theorem settle_crash {B : Nat} {D : Dsk} {w : World} {F : Nat → Prop} (hd : DkA B D w F) (p : Nat → Bool) (X : Nat)
    (HK : Hid (∀ w', Mod F w w' → ∀ i : Nat, Calls Try.prog 35 #[.int .i64 (i : Int), dp X] w' fun e w'' => e = .returned (.bool (p i)) ∧ w'' = w')) :
    Calls Try.prog 33 #[dp B, .func (.func 35) #[] #[dp X]] w fun e w' => e = .returned (.int .i64 ((keptTo p D.c D.c.length).length : Nat)) ∧ ∃ F', DkA B (D.settled p) w' F' ∧ Ext F w F' w' := by
  obtain ⟨cs, cv, h, he⟩ := hd
  have hB := (he B).2 (.inl rfl)
  obtain ⟨ao, cap, hcv⟩ := h.len
  obtain ⟨n, hn⟩ : ∃ n, D.c.length = n := ⟨_, rfl⟩
  have h1 := h.cch
  rw [hcv, hn] at h1
  rw [hn] at hcv
  have hbig : n ≤ 9223372036854775807 := by
    have := h.row
    obtain ⟨_, ⟨_, h0⟩ | ⟨g, cp, cur, _, _, _, h2, h3, _⟩⟩ := this
    · omega
    · unfold maxLen at h3; omega
  have HH := hide h
  have HN := hide hn
  have HE := hide he
  rw [hn]
  clear h hn he
  go_enter Try.func33, Try.ntmps33
  go_wp2
  go_loopw [5, 12] (fun c i wr => ∃ k : Nat, k ≤ n ∧ i = .int .i64 (k : Int) ∧ c = .int .i64 ((keptTo p D.c k).length : Nat) ∧ Mod F w wr ∧ ∃ cs', DkAt wr B cs' cv (D.mid p k)) (fun _ i _ => n - (intOf i).toNat)
  case atStart => exact ⟨0, Nat.zero_le _, rfl, rfl, Mod.refl _ _, cs, HH.out⟩
  case round =>
    obtain ⟨k, hk, rfl, rfl, hM, cs', hD⟩ := hrel
    have HM := hide hM
    by_cases hlt : k < n
    · have hd1 : decide (k < n) = true := by simp; omega
      have hkl : k < D.c.length := by rw [HN.out]; omega
      obtain ⟨x, hx⟩ : ∃ x, D.c[k]? = some x := ⟨_, List.getElem?_eq_getElem hkl⟩
      have hlen := keptTo_len p D.c k
      obtain ⟨ct, hct⟩ : ∃ ct, (keptTo p D.c k).length = ct := ⟨_, rfl⟩
      rw [hct] at hlen ⊢
      have HD := hide hD
      have HX := hide hx
      have HCT := hide hct
      clear hM hD hx hct
      cases hp : p k
      · go_wp2_with fail
        refine (HK.out _ HM.out k).mono ?_
        rintro e w1 ⟨rfl, rfl⟩
        have HD1 : Hid (DkAt w1 B cs' cv (D.mid p (k + 1))) := by
          have := HD.out
          unfold Dsk.mid at this ⊢
          rw [keptTo_no hp]; exact this
        go_wp2
        go_roundw
        case rel => exact ⟨k + 1, by omega, by go_num, by rw [keptTo_no hp, HCT.out], HM.out, cs', HD1.out⟩
        case measure => simp [intOf]; omega
      · obtain ⟨g, cp, hcv', hgB, hsec, hbyt⟩ := HD.out.entry (show (D.mid p k).c[k]? = some x from HX.out)
        have hcv2 : cv = .slice (some ⟨g, 0, none⟩) n cp := by rw [hcv']; show Value.slice _ D.c.length _ = _; rw [HN.out]
        rw [hcv] at hcv2
        simp at hcv2
        obtain ⟨rfl, rfl⟩ := hcv2
        have hcx := HH.out.ok.c x (List.mem_of_getElem? HX.out)
        have h5 := HD.out.cch
        rw [hcv] at h5
        obtain ⟨t, bs⟩ := x
        simp only at hsec hbyt hcx
        have hthere : wr.there B (t * 128) 128 := fun j hj => ⟨by rw [cell_of_row _ _ _ _ _ _ HD.out.top]; simp; have := HD.out.inn.size; omega, HD.out.frz _⟩
        obtain ⟨X, hX⟩ : ∃ X, bs.map By = X := ⟨_, rfl⟩
        have hXl : X.length = 128 := by rw [← hX, List.length_map]; exact hcx.2.1
        have hX1 : ∀ v ∈ X, v.oneCell' = true := by rw [← hX]; exact By_one bs
        rw [hX] at hbyt
        have hi68 : (Try.prog.info? 41).map (·.size) = some X.length := by rw [hXl]; exact info68
        have hu68 := Try.underlying41
        have hct2 : ct < 9223372036854775807 := by omega
        have ht := hcx.1
        have HCX := hide hcx
        have HHX := hide hX
        have HCV := hide hcv
        clear hcx hX hcv'
        go_wp2_with fail
        refine (HK.out _ HM.out k).mono ?_
        rw [hp]
        rintro e w1 ⟨rfl, rfl⟩
        go_wp2
        go_region_held (fun w' => (w'.cell? ⟨B, 131072, none⟩ = some (.slice (some ⟨g, 0, none⟩) n cap) ∧ w'.cell? ⟨g, k * 129, none⟩ = some (.int .i64 (t : Int))) ∧ w'.rangeAt g (k * 129 + 1) X ∧ w'.there B (t * 128) 128)
          (first | exact keep_drew (And.intro (And.intro h5 hsec) (And.intro hbyt hthere)) | (refine keep_store hgB ht hXl ?_; assumption))
          (fail)
        have HN2 := hide (mid_next hB hp HX.out HCX.out HM.out HD.out HHX.out)
        rename_i hHeld
        clear hHeld h5 hsec hthere hbyt HD
        generalize w1.drew.setCells B (t * 128) X = w2 at *
        go_wp2
        go_roundw
        case rel => exact ⟨k + 1, by omega, by go_num, by rw [keptTo_yes hp HX.out, List.length_append, HCT.out]; rfl, HN2.out.1, HN2.out.2⟩
        case measure => simp [intOf]; omega
    · obtain rfl : k = n := by omega
      have h5 := hD.cch
      have f5 := hD.frz 131072
      have hsz := hM.size
      have HD := hide hD
      clear hM hD
      go_wp2
      go_ret
      refine ⟨rfl, fun b => b = B, ⟨_, .slice none 0 0, ⟨heap_setCell_same _ _ _ _ _ _ HD.out.top, ?_, World.ownsRow_nil _ _ _ _, by simp [Value.ownBlock], HH.out.ok.settled p⟩, fun b => by simp [Value.ownBlock]⟩, HM.out.setCell (.inl hB) _, fun b hb => .inl (by rw [hb]; exact hB)⟩
      have := HD.out.inn.setCch HD.out.ok (.slice none 0 0) []
      simpa [Dsk.settled, Dsk.mid, HN.out] using this
end Go.Proofs.Ytnpklhjndominaa
