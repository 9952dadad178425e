import Derived.Test.YtogcgccfalfbaaaC9
namespace Go.Proofs.Ytogcgccfalfbaaa
open Go.RowKit

/-- a disk at B whatever it holds, with at most n acts and at most n writes in its cache -/
def AnyD (B n : Nat) : Asn := fun w F => ∃ D : Dsk, DkA B D w F ∧ D.acts ≤ n ∧ D.c.length ≤ n
theorem good_any (B n : Nat) : Good (AnyD B n) := by
  refine ⟨?_, ?_⟩
  · rintro W H ⟨D, h, _⟩; exact (good_dk B D).lt h
  · rintro W W' H ⟨D, h, h2⟩ hs hk; exact ⟨D, (good_dk B D).keep h hs hk, h2⟩
theorem write_some {B n : Nat} {w : World} {F : Nat → Prop} (hd : AnyD B n w F) (hn : n < 100000000) (z : Int) (v : Value) (zs : List Nat) (hv : Rd w v zs) (hz : ∀ x ∈ zs, x < 256) (hnF : ∀ b, v.ownBlock = some b → ¬ F b) :
    Calls Try.prog 18 #[dp B, .int .i64 z, v] w fun e w' => ∃ k : Int, e = .returned (.int .i64 k) ∧ ∃ F', AnyD B (n + 1) w' F' ∧ Ext F w F' w' := by
  obtain ⟨D, hd, h1, h2⟩ := hd
  by_cases hr : z < 0 ∨ 1024 ≤ z
  · refine (write_out B z v w hr).mono ?_
    rintro e w' ⟨rfl, rfl⟩
    exact ⟨40, rfl, F, ⟨D, hd, by omega, by omega⟩, Ext.refl _ _⟩
  · obtain ⟨s, rfl⟩ : ∃ s : Nat, z = (s : Int) := ⟨z.toNat, by omega⟩
    have hs : s < 1024 := by omega
    obtain ⟨ao, cap, hvv⟩ := hv.len
    by_cases hl : zs.length = 128
    · by_cases hno : D.down = true ∨ (D.armed = true ∧ D.left = 0)
      · rw [hvv, hl]
        refine (write_no hd s cap ao hs hno).mono ?_
        rintro e w' ⟨rfl, h3, h4⟩
        exact ⟨42, rfl, F, ⟨D.off, h3, by show D.acts ≤ _; omega, by show D.c.length ≤ _; omega⟩, h4⟩
      · refine (write_ok hd s v zs hs hv ⟨hl, hz⟩ hnF (by cases h : D.down; rfl; exact absurd (.inl h) hno) (fun h h' => hno (.inr ⟨h, h'⟩)) (by omega) (by omega)).mono ?_
        rintro e w' ⟨rfl, F', h3, h4⟩
        exact ⟨0, rfl, F', ⟨_, h3, by show D.acts + 1 ≤ _; omega, by show (D.c ++ [_]).length ≤ _; simp; omega⟩, h4⟩
    · rw [hvv]
      refine (write_size B s zs.length cap ao w hs hl).mono ?_
      rintro e w' ⟨rfl, rfl⟩
      exact ⟨41, rfl, F, ⟨D, hd, by omega, by omega⟩, Ext.refl _ _⟩
theorem flush_some {B n : Nat} {w : World} {F : Nat → Prop} (hd : AnyD B n w F) (hn : n < 100000000) : Calls Try.prog 7 #[dp B] w fun e w' => ∃ k : Int, e = .returned (.int .i64 k) ∧ ∃ F', AnyD B (n + 1) w' F' ∧ Ext F w F' w' := by
  obtain ⟨D, hd, h1, h2⟩ := hd
  by_cases hno : D.down = true ∨ (D.armed = true ∧ D.left = 0)
  · refine (flush_no hd hno).mono ?_
    rintro e w' ⟨rfl, h3, h4⟩
    exact ⟨42, rfl, F, ⟨D.off, h3, by show D.acts ≤ _; omega, by show D.c.length ≤ _; omega⟩, h4⟩
  · refine (flush_ok hd (by cases h : D.down; rfl; exact absurd (.inl h) hno) (fun h h' => hno (.inr ⟨h, h'⟩)) (by omega)).mono ?_
    rintro e w' ⟨rfl, F', h3, h4⟩
    exact ⟨0, rfl, F', ⟨_, h3, by show D.acts + 1 ≤ _; omega, by show ([] : List (Nat × List Nat)).length ≤ _; simp⟩, h4⟩
theorem arm_some {B n : Nat} {w : World} {F : Nat → Prop} (hd : AnyD B n w F) (z : Int) (hz : z ≤ 9223372036854775807) : Calls Try.prog 41 #[dp B, .int .i64 z] w fun e w' => ∃ k : Int, e = .returned (.int .i64 k) ∧ ∃ F', AnyD B (n + 1) w' F' ∧ Ext F w F' w' := by
  obtain ⟨D, hd, h1, h2⟩ := hd
  by_cases h0 : z < 0
  · refine (arm_neg z h0).mono ?_
    rintro e w' ⟨rfl, rfl⟩
    exact ⟨1, rfl, F, ⟨D, hd, by omega, by omega⟩, Ext.refl _ _⟩
  · obtain ⟨s, rfl⟩ : ∃ s : Nat, z = (s : Int) := ⟨z.toNat, by omega⟩
    cases hw : D.down
    · refine (arm_ok hd s (by omega) hw).mono ?_
      rintro e w' ⟨rfl, h3, h4⟩
      exact ⟨0, rfl, F, ⟨_, h3, by show D.acts ≤ _; omega, by show D.c.length ≤ _; omega⟩, h4⟩
    · refine (arm_down hd s hw).mono ?_
      rintro e w' ⟨rfl, rfl⟩
      exact ⟨42, rfl, F, ⟨D, hd, by omega, by omega⟩, Ext.refl _ _⟩
theorem crash_some {B n : Nat} {w : World} {F : Nat → Prop} (hd : AnyD B n w F) (v : Value) (ks : List Bool) (hr : RdB w v ks) (hnF : ∀ b, v.ownBlock = some b → ¬ F b) : Calls Try.prog 21 #[dp B, v] w fun e w' => ∃ k : Int, e = .returned (.int .i64 k) ∧ ∃ F', AnyD B (n + 1) w' F' ∧ Ext F w F' w' := by
  obtain ⟨D, hd, h1, h2⟩ := hd
  refine (crash_any hd v ks hr hnF).mono ?_
  rintro e w' ⟨rfl, F', h3, h4⟩
  exact ⟨_, rfl, F', ⟨_, h3, by show D.acts ≤ _; omega, by show ([] : List (Nat × List Nat)).length ≤ _; simp⟩, h4⟩
theorem edit_some {B n : Nat} {w : World} {F : Nat → Prop} (hd : AnyD B n w F) (z a : Int) (v : Value) (zs : List Nat) (hv : Rd w v zs) (hz : ∀ x ∈ zs, x < 256) (hl : zs.length ≤ 1048576) : Calls Try.prog 20 #[dp B, .int .i64 z, .int .i64 a, v] w fun e w' => ∃ k : Int, e = .returned (.int .i64 k) ∧ ∃ F', AnyD B (n + 1) w' F' ∧ Ext F w F' w' := by
  obtain ⟨D, hd, h1, h2⟩ := hd
  by_cases hr : z < 0 ∨ 1024 ≤ z
  · refine (edit_out B z a v w hr).mono ?_
    rintro e w' ⟨rfl, rfl⟩
    exact ⟨40, rfl, F, ⟨D, hd, by omega, by omega⟩, Ext.refl _ _⟩
  · obtain ⟨s, rfl⟩ : ∃ s : Nat, z = (s : Int) := ⟨z.toNat, by omega⟩
    have hs : s < 1024 := by omega
    by_cases ha : a < 0 ∨ 128 < a + (zs.length : Int)
    · obtain ⟨ao, cap, hvv⟩ := hv.len
      rw [hvv]
      refine (edit_arg B s a zs.length cap ao w hs hl ha).mono ?_
      rintro e w' ⟨rfl, rfl⟩
      exact ⟨1, rfl, F, ⟨D, hd, by omega, by omega⟩, Ext.refl _ _⟩
    · obtain ⟨t, rfl⟩ : ∃ t : Nat, a = (t : Int) := ⟨a.toNat, by omega⟩
      refine (edit_ok hd s t v zs hs hv hz (by omega)).mono ?_
      rintro e w' ⟨rfl, h3, h4⟩
      exact ⟨0, rfl, F, ⟨_, h3, by show D.acts ≤ _; omega, by show D.c.length ≤ _; omega⟩, h4⟩
theorem add_pos' (x : Addr) (i : Nat) (hi : i ≠ 0) : x.add i = ⟨x.block, x.off + i, none⟩ := by
  unfold Addr.add; split <;> simp_all
theorem far_cell {w : World} {x : Addr} {n i : Nat} {v : Value} (hi : i ≠ 0) (h : w.cell? (x.add (n + i)) = some v) : w.cell? ⟨(x.add n).block, (x.add n).off + i, none⟩ = some v := by
  have e : (x.add n).add i = x.add (n + i) := Deep.add_add x n i
  rw [← add_pos' _ i hi, e]; exact h
theorem Sys.call1 {w wr : World} {X : Asn} (h : Sys w wr X) :
    ∃ F : Nat → Prop, X wr F ∧ (∀ b, F b → w.heap.size ≤ b) ∧ ∀ (w' : World) (F' : Nat → Prop) (X' : Asn), X' w' F' → Ext F wr F' w' → Sys w w' X' := by
  obtain ⟨H, h1, hl, hb⟩ := h
  refine ⟨H, h1, hl, fun w' F' X' hT hE => ⟨F', hT, ?_, hb.trans (hE.mod.below hl hb.size)⟩⟩
  intro b hb'
  rcases hE.new b hb' with h5 | h5
  · exact hl b h5
  · have := hb.size; omega
/-- the seven cells of a call's record at block G -/
def Rec (W : World) (G : Nat) (v0 v1 v2 v3 v4 v5 v6 : Value) : Prop := W.heap[G]? = some (.cells #[v0, v1, v2, v3, v4, v5, v6] 56 (0, 0))
theorem Rec.cells {W : World} {G : Nat} {v0 v1 v2 v3 v4 v5 v6 : Value} (h : Rec W G v0 v1 v2 v3 v4 v5 v6) :
    W.cell? ⟨G, 0, none⟩ = some v0 ∧ W.cell? ⟨G, 1, none⟩ = some v1 ∧ W.cell? ⟨G, 2, none⟩ = some v2 ∧ W.cell? ⟨G, 3, none⟩ = some v3 ∧ W.cell? ⟨G, 4, none⟩ = some v4 ∧ W.cell? ⟨G, 5, none⟩ = some v5 ∧ W.cell? ⟨G, 6, none⟩ = some v6 := by
  have e := fun i => cell_of_row W G i _ _ _ h
  exact ⟨by rw [e]; rfl, by rw [e]; rfl, by rw [e]; rfl, by rw [e]; rfl, by rw [e]; rfl, by rw [e]; rfl, by rw [e]; rfl⟩
theorem rec_new (w : World) (v0 v1 v2 v3 v4 v5 v6 : Value) : Rec (w.alloc (Obj.cells #[v0, v1, v2, v3, v4, v5, v6] 56)) w.heap.size v0 v1 v2 v3 v4 v5 v6 := heap_alloc_last _ _
theorem Rec.below {W W' : World} {G : Nat} {v0 v1 v2 v3 v4 v5 v6 : Value} (h : Rec W G v0 v1 v2 v3 v4 v5 v6) (hb : Below W.heap.size W W') : Rec W' G v0 v1 v2 v3 v4 v5 v6 := by
  unfold Rec; rw [hb.block G (Array.getElem?_eq_some_iff.1 h).1]; exact h
theorem Good.below {A : Asn} (h : Good A) {W W' : World} {H : Nat → Prop} (hA : A W H) (hb : Below W.heap.size W W') : A W' H := h.keep hA hb.size (fun b hb' => hb.block b (h.lt hA b hb'))
theorem own_far {B k : Nat} {w w3 : World} {F : Nat → Prop} {r : Value} {zs : List Nat} (h : Ow w3 w.heap.size r zs) (hF : AnyD B k w F) : ∀ b, r.ownBlock = some b → ¬ F b := fun b hb hf => by
  have h1 := (World.ownsRow.lt h b hb).1
  have h2 := (good_any B k).lt hF b hf
  omega
theorem own_farB {B k : Nat} {w w3 : World} {F : Nat → Prop} {r : Value} {zs : List Bool} (h : OwB w3 w.heap.size r zs) (hF : AnyD B k w F) : ∀ b, r.ownBlock = some b → ¬ F b := fun b hb hf => by
  have h1 := (World.ownsRow.lt h b hb).1
  have h2 := (good_any B k).lt hF b hf
  omega
theorem any_mono {B k : Nat} {w : World} {F : Nat → Prop} (h : AnyD B k w F) : AnyD B (k + 1) w F := by
  obtain ⟨D, h1, h2, h3⟩ := h; exact ⟨D, h1, by omega, by omega⟩
theorem Rec.three {W : World} {G : Nat} {v0 v1 v2 v3 v4 v5 v6 : Value} (h : Rec W G v0 v1 v2 v3 v4 v5 v6) : W.cell? ⟨G, 2, none⟩ = some v2 ∧ W.cell? ⟨G, 3, none⟩ = some v3 ∧ W.cell? ⟨G, 4, none⟩ = some v4 := by
  obtain ⟨_, _, h2, h3, h4, _, _⟩ := h.cells; exact ⟨h2, h3, h4⟩
theorem far_not {w : World} {F : Nat → Prop} (h : ∀ b, F b → b < w.heap.size) : ¬ F w.heap.size := fun hf => by have := h _ hf; omega
theorem Rec.mod {W W' : World} {G : Nat} {F : Nat → Prop} {v0 v1 v2 v3 v4 v5 v6 : Value} (h : Rec W G v0 v1 v2 v3 v4 v5 v6) (hb : Mod F W W') (hf : ¬ F G) : Rec W' G v0 v1 v2 v3 v4 v5 v6 := by
  unfold Rec; rw [hb.block G (Array.getElem?_eq_some_iff.1 h).1 hf]; exact h
set_option maxRecDepth 100000 in
set_option maxHeartbeats 1000000 in
theorem begun_any (a : Option Addr) (len cap : Nat) (Z : Nat → Opr) (w : World) (hl : len ≤ 1048576) (hZ : IsOps w a len Z) :
    Calls Try.prog 28 #[.slice a len cap] w fun e w' => ∃ B, e = .returned (dp B) ∧ Sys w w' (AnyD B len) := by
  have HZ := hide hZ
  clear hZ
  go_enter Try.func28, Try.ntmps28
  go_wp2_with fail
  refine (new_any w).mono ?_
  rintro e w1 ⟨rfl, hd1, hb1⟩
  have H1 : Hid (Sys w w1 (AnyD w.heap.size 0)) := ⟨_, ⟨D0, hd1, by simp [D0], by simp [D0]⟩, fun b hb => by omega, hb1⟩
  generalize w.heap.size = B at H1 ⊢
  clear hd1 hb1
  go_wp2
  go_loopw [4] (fun i wr => ∃ k : Nat, k ≤ len ∧ i = .int .i64 (k : Int) ∧ Sys w wr (AnyD B k)) (fun i _ => len - (intOf i).toNat)
  case atStart => exact ⟨0, Nat.zero_le _, rfl, H1.out⟩
  case round =>
    obtain ⟨k, hk, rfl, hS⟩ := hrel
    clear H1
    by_cases hlt : k < len
    · have hd : decide (k < len) = true := by simp; omega
      obtain ⟨x, hx, ho⟩ := HZ.out k hlt
      subst hx
      have ho := ho.below hS.bel (Nat.le_refl _)
      have c0 := ho.c0
      have c1 := far_cell (by decide) ho.c1
      have c2 := far_cell (by decide) ho.c2
      have c3 := far_cell (by decide) ho.c3
      have c4 := far_cell (by decide) ho.c4
      have c5 := far_cell (by decide) ho.c5
      have c6 := far_cell (by decide) ho.c6
      obtain ⟨ad, cd, hdat⟩ := ho.rd.len
      obtain ⟨ak, ck, hkp⟩ := ho.rb.len
      generalize Z k = o at *
      rw [hdat] at c4
      rw [hkp] at c6
      obtain ⟨F, hF, hFl, hnext⟩ := hS.call1
      have hFs := (good_any B k).lt hF
      have HNX := hide hnext
      have HF := hide (And.intro hF hFs)
      have HO := hide ho
      clear hS ho hnext hF hFs hFl
      have hk2 : k < 100000000 := by omega
      obtain ⟨kd, hkd⟩ : ∃ kd, o.kind = kd := ⟨_, rfl⟩
      rw [hkd] at c0
      have HR0 := hide (rec_new wr (.int .i64 kd) (.bool o.two) (.int .i64 o.sec) (.int .i64 o.at') (.slice ad o.zs.length cd) (.bool o.fill) (.slice ak o.ks.length ck))
      have HB0 : Hid (Below wr.heap.size wr (wr.alloc (Obj.cells #[.int .i64 kd, .bool o.two, .int .i64 o.sec, .int .i64 o.at', .slice ad o.zs.length cd, .bool o.fill, .slice ak o.ks.length ck] 56))) := (Below.refl _ _).alloc (Nat.le_refl _) _
      by_cases h2 : kd = 2
      · subst h2
        go_wp2
        generalize wr.alloc (Obj.cells #[.int .i64 2, .bool o.two, .int .i64 o.sec, .int .i64 o.at', .slice ad o.zs.length cd, .bool o.fill, .slice ak o.ks.length ck] 56) = w2 at *
        have hh := handed_any o w2.drew (HO.out.rd.below (HB0.out.drew) (Nat.le_refl _)) (HO.out.rb.below (HB0.out.drew) (Nat.le_refl _)) HO.out.zl
        rw [hkd, hdat, hkp] at hh
        have HH := hide hh
        have HRd : Hid (Rec w2.drew wr.heap.size (.int .i64 2) (.bool o.two) (.int .i64 o.sec) (.int .i64 o.at') (.slice ad o.zs.length cd) (.bool o.fill) (.slice ak o.ks.length ck)) := HR0.out
        have HFd : Hid (AnyD B k w2.drew F) := (good_any B k).keep HF.out.1 HB0.out.size (fun b hb => HB0.out.block b (HF.out.2 b hb))
        have HBd : Hid (Below wr.heap.size wr w2.drew) := HB0.out.drew
        clear hh c0 c1 c2 c3 c4 c5 c6
        go_region_held (fun W => W.cell? ⟨wr.heap.size, 0, none⟩ = some (.int .i64 2) ∧ W.cell? ⟨wr.heap.size, 1, none⟩ = some (.bool o.two) ∧ W.cell? ⟨wr.heap.size, 2, none⟩ = some (.int .i64 o.sec) ∧ W.cell? ⟨wr.heap.size, 3, none⟩ = some (.int .i64 o.at') ∧ W.cell? ⟨wr.heap.size, 4, none⟩ = some (.slice ad o.zs.length cd) ∧ W.cell? ⟨wr.heap.size, 5, none⟩ = some (.bool o.fill) ∧ W.cell? ⟨wr.heap.size, 6, none⟩ = some (.slice ak o.ks.length ck))
          (first | exact q4 | exact q3 | exact HRd.out.cells)
          (first
            | (go_at_call 38; refine HH.out.mono ?_; rintro e w3 ⟨r, rfl, hr, hb⟩
               have Q3 := hide (And.intro hr hb)
               have q3 := (HRd.out.below hb).cells
               clear hr hb)
            | (go_at_call 18; refine (write_some ((good_any B k).below HFd.out Q3.out.2) hk2 o.sec r o.bytes Q3.out.1.rd (Opr.bytes_lt HO.out.by8) (own_far Q3.out.1 HFd.out)).mono ?_
               rintro e w4 ⟨kk, rfl, F', hd4, hx4⟩
               have Q4 := hide (HNX.out _ _ _ hd4 (((Ext.of_below HBd.out).trans (Ext.of_below Q3.out.2)).trans hx4))
               have q4 := ((HRd.out.below Q3.out.2).mod hx4.mod (far_not HF.out.2)).cells
               clear hd4 hx4))
        clear q3 q4
        go_wp2
        go_roundw
        case rel => exact ⟨k + 1, by omega, by go_num, Q4.out⟩
        case measure => simp [intOf]; omega
      · by_cases h3 : kd = 3
        · subst h3
          go_wp2_with fail
          generalize wr.alloc (Obj.cells #[.int .i64 3, .bool o.two, .int .i64 o.sec, .int .i64 o.at', .slice ad o.zs.length cd, .bool o.fill, .slice ak o.ks.length ck] 56) = w2 at *
          have HFd : Hid (AnyD B k w2 F) := (good_any B k).keep HF.out.1 HB0.out.size (fun b hb => HB0.out.block b (HF.out.2 b hb))
          refine (flush_some HFd.out hk2).mono ?_
          rintro e w4 ⟨kk, rfl, F', hd4, hx4⟩
          have Q4 := hide (HNX.out _ _ _ hd4 ((Ext.of_below HB0.out).trans hx4))
          clear hd4 hx4 c0 c1 c2 c3 c4 c5 c6
          go_wp2
          go_roundw
          case rel => exact ⟨k + 1, by omega, by go_num, Q4.out⟩
          case measure => simp [intOf]; omega
        · by_cases h5 : kd = 5
          · subst h5
            go_wp2_with fail
            generalize wr.alloc (Obj.cells #[.int .i64 5, .bool o.two, .int .i64 o.sec, .int .i64 o.at', .slice ad o.zs.length cd, .bool o.fill, .slice ak o.ks.length ck] 56) = w2 at *
            have HFd : Hid (AnyD B k w2 F) := (good_any B k).keep HF.out.1 HB0.out.size (fun b hb => HB0.out.block b (HF.out.2 b hb))
            refine (arm_some HFd.out o.at' HO.out.a1.2).mono ?_
            rintro e w4 ⟨kk, rfl, F', hd4, hx4⟩
            have Q4 := hide (HNX.out _ _ _ hd4 ((Ext.of_below HB0.out).trans hx4))
            clear hd4 hx4 c0 c1 c2 c3 c4 c5 c6
            go_wp2
            go_roundw
            case rel => exact ⟨k + 1, by omega, by go_num, Q4.out⟩
            case measure => simp [intOf]; omega
          · by_cases h7 : kd = 7
            · subst h7
              go_wp2_with fail
              generalize wr.alloc (Obj.cells #[.int .i64 7, .bool o.two, .int .i64 o.sec, .int .i64 o.at', .slice ad o.zs.length cd, .bool o.fill, .slice ak o.ks.length ck] 56) = w2 at *
              have HFd : Hid (AnyD B k w2 F) := (good_any B k).keep HF.out.1 HB0.out.size (fun b hb => HB0.out.block b (HF.out.2 b hb))
              have hh := flags_any o.keep o.ks w2 (HO.out.rb.below HB0.out (Nat.le_refl _)) HO.out.kl
              rw [hkp] at hh
              refine hh.mono ?_
              rintro e w3 ⟨r, rfl, hr, hb⟩
              have Q3 := hide (And.intro hr hb)
              clear hh hr hb
              go_wp2_with fail
              refine (crash_some ((good_any B k).below HFd.out Q3.out.2) r o.ks Q3.out.1.rd (own_farB Q3.out.1 HFd.out)).mono ?_
              rintro e w4 ⟨kk, rfl, F', hd4, hx4⟩
              have Q4 := hide (HNX.out _ _ _ hd4 (((Ext.of_below HB0.out).trans (Ext.of_below Q3.out.2)).trans hx4))
              clear hd4 hx4 c0 c1 c2 c3 c4 c5 c6
              go_wp2
              go_roundw
              case rel => exact ⟨k + 1, by omega, by go_num, Q4.out⟩
              case measure => simp [intOf]; omega
            · by_cases h8 : kd = 8
              · subst h8
                go_wp2
                generalize wr.alloc (Obj.cells #[.int .i64 8, .bool o.two, .int .i64 o.sec, .int .i64 o.at', .slice ad o.zs.length cd, .bool o.fill, .slice ak o.ks.length ck] 56) = w2 at *
                have HRd : Hid (Rec w2.drew wr.heap.size (.int .i64 8) (.bool o.two) (.int .i64 o.sec) (.int .i64 o.at') (.slice ad o.zs.length cd) (.bool o.fill) (.slice ak o.ks.length ck)) := HR0.out
                have HFd : Hid (AnyD B k w2.drew F) := (good_any B k).keep HF.out.1 HB0.out.size (fun b hb => HB0.out.block b (HF.out.2 b hb))
                have HBd : Hid (Below wr.heap.size wr w2.drew) := HB0.out.drew
                have hh := copied_any o.data o.zs w2.drew (HO.out.rd.below (HB0.out.drew) (Nat.le_refl _)) HO.out.zl
                rw [hdat] at hh
                have HH := hide hh
                clear hh c0 c1 c2 c3 c4 c5 c6
                go_region_held (fun W => W.cell? ⟨wr.heap.size, 2, none⟩ = some (.int .i64 o.sec) ∧ W.cell? ⟨wr.heap.size, 3, none⟩ = some (.int .i64 o.at') ∧ W.cell? ⟨wr.heap.size, 4, none⟩ = some (.slice ad o.zs.length cd))
                  (first | exact q4 | exact q3 | exact HRd.out.three)
                  (first
                    | (go_at_call 45; refine HH.out.mono ?_; rintro e w3 ⟨r, rfl, hr, hb⟩
                       have Q3 := hide (And.intro hr hb)
                       have q3 := (HRd.out.below hb).three
                       clear hr hb)
                    | (go_at_call 20; refine (edit_some ((good_any B k).below HFd.out Q3.out.2) o.sec o.at' r o.zs Q3.out.1.rd HO.out.by8 HO.out.zl).mono ?_
                       rintro e w4 ⟨kk, rfl, F', hd4, hx4⟩
                       have Q4 := hide (HNX.out _ _ _ hd4 (((Ext.of_below HBd.out).trans (Ext.of_below Q3.out.2)).trans hx4))
                       have q4 := ((HRd.out.below Q3.out.2).mod hx4.mod (far_not HF.out.2)).three
                       clear hd4 hx4))
                clear q3 q4
                go_wp2
                go_roundw
                case rel => exact ⟨k + 1, by omega, by go_num, Q4.out⟩
                case measure => simp [intOf]; omega
              · have Q4 := hide (HNX.out _ _ _ (any_mono HF.out.1) (Ext.refl _ _))
                have e2 : decide (kd = 2) = false := by simp; omega
                have e3 : decide (kd = 3) = false := by simp; omega
                have e5 : decide (kd = 5) = false := by simp; omega
                have e7 : decide (kd = 7) = false := by simp; omega
                have e8 : decide (kd = 8) = false := by simp; omega
                go_wp2
                go_roundw
                case rel => exact ⟨k + 1, by omega, by go_num, Q4.out.below (good_any B (k + 1)) HB0.out⟩
                case measure => simp [intOf]; omega
    · obtain rfl : k = len := by omega
      go_wp2
      go_ret
      exact ⟨B, rfl, hS⟩
end Go.Proofs.Ytogcgccfalfbaaa
